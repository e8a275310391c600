/-
  Several texts in one (Qa Qb Qd Qe Qf).
-/
import Derived.RangeFuncNested
import Derived.RangeFuncBound
import Derived.RangeFuncCalls
import Derived.RangeFuncLeaves
import Derived.Shelf.Abstract
import Derived.Shelf.RegionOpen
import Derived.WalkKit
import Derived.WalkSpells
import Derived.WalkLawsBesides
import Derived.OwnWalkIn
import Derived.TacticsInMore
import Derived.LoopNIn
import Derived.LoopIn
import Derived.BigQuiet
import Derived.RegionIn
import Derived.Deep.QuietTactic
import Derived.Deep.RegionWith
import Derived.Lib.OthersKept
import Derived.Maps.AppendAt
import Derived.Lib.SmallJoins
import Derived.Shelf.SlSortCmp.QuietGrown
import Derived.RangeFuncWrites
import Derived.RangeFuncBox
import Derived.Maps.OwnIn
import Derived.Test.YtibgnkpagfpinaaGreatDoorMgsp
import Derived.Test.YtibgnkpagfpinaaGreatDoorMgrp
import Derived.Test.YtibgnkpagfpinaaGreatDoorMgqp
import Derived.Test.YtibgnkpagfpinaaGreatDoorMgnp
import Derived.Test.YtibgnkpagfpinaaGreatDoorMglp
import Derived.Test.YtibgnkpagfpinaaGreatDoorTdp
import Derived.Test.YtibgnkpagfpinaaGreatDoorVdp
import Derived.Test.YtibgnkpagfpinaaGreatDoorTep
import Derived.Test.YtibgnkpagfpinaaGreatDoorUzp
namespace Go.Proofs
open Go.RowKit Go.Shelf
set_option maxRecDepth 100000
attribute [local go_sem] Oper.semAt_some
attribute [local go_sem ↓] Go.wp_at_zero Go.wp_at_succ
theorem kpA_of {B:Nat} {W W':World} (h:KeepsOthers W W') (hc:∀ v,W.cell? ⟨B,0,none⟩=some v→W'.cell? ⟨B,0,none⟩=some v):KpA B W W':=⟨fun k _ _ hk=>h.walks.same k _ hk rfl,hc⟩
theorem row_kept {W W':World} {row:Option Nat} {base:Nat} {e:TypeId} {v:Value} {k:Nat} {xs:List Value} (h:W.ownsRow base e 1 v k xs) (hg:W.grownBy W' row) (hr:∀ r,row=some r→∃ o:Obj,W.heap[r]? = some o∧o.isCells=false):W'.ownsRow base e 1 v k xs:=by
 refine h.kept hg ?_
 rcases h.2 with ⟨rfl,_⟩ | ⟨g,cap,cur,rfl,_,hgb,_⟩
 · exact .inl rfl
 · refine .inr fun e' => ?_
   obtain ⟨o,ho,hc⟩:=hr g (by simpa [Value.ownBlock] using e'.symm)
   rw [hgb] at ho;cases ho;cases hc
theorem vals_length {s:ByteArray} (l:List (UU s)):(vals l).length=l.length:=by simp [vals]
def us (l:List (Nat × Nat)):List Value:=l.map fun x=>Value.int .i64 (x.2:Int)
theorem us_snoc (l:List (Nat × Nat)) (x:Nat × Nat):us (l++[x])=us l++[Value.int .i64 (x.2:Int)]:=by simp [us]
def CI (s:ByteArray) (b:Nat) (pre:List (UU s)) (W:World):Prop:=
 ∃ v,Boxed W b 46 v∧W.ownsRow b 3 1 v pre.length (us (vals pre))∧Boxed W (b+1) 9 (.string s)
theorem CI_own (s:ByteArray) (b:Nat):Own (CI s b):=by
 rintro p X Y row ⟨v,h1,h2,h3⟩ hg hr
 exact ⟨v,boxed_kept h1 hg hr,row_kept h2 hg hr,boxed_kept h3 hg hr⟩
set_option maxHeartbeats 2000000 in
theorem cut_any (s:ByteArray) (w:World) (hs:s.size≤4398046511104) :
 Calls Tryz.prog 20 #[.string s] w fun e w'=>∃ v,e = .returned v∧w'.ownsRow w.heap.size 3 1 v (units s).length (us (units s))∧Below w.heap.size w w':=by
 obtain ⟨i0,hi,hz0,hz1,hz2⟩:=info_parts iinfo3
 refine (callsIn_wide (n:=5)).1 ?_
 refine callsIn_of_wp_marks Tryz.func20 rfl trivial ?_ rfl
 simp only [Tryz.ntmps20,List.size_toArray,List.length_cons,List.length_nil,Nat.reduceAdd,Nat.reduceSub,Array.replicate_succ,Array.replicate_zero,List.push_toArray,List.append_toArray,List.nil_append,List.cons_append]
 gi_wp2_with (refine ⟨trivial,?_⟩;gi_at_call 44;refine (callsIn_wide.2 (uall_any _ _)).mono ?_;rintro e w' ⟨rfl,rfl⟩)
 have b0:Boxed (w.alloc (.cells #[.slice none 0 0] 46)) w.heap.size 46 (.slice none 0 0):=Boxed.new _ _ _
 have b1:Boxed ((w.alloc (.cells #[.slice none 0 0] 46)).alloc (.cells #[.string s] 9)) (w.heap.size+1) 9 (.string s):=by have:=Boxed.new (w.alloc (.cells #[.slice none 0 0] 46)) 9 (.string s);rwa [World.size_alloc] at this
 have hB0:Below w.heap.size w ((w.alloc (.cells #[.slice none 0 0] 46)).alloc (.cells #[.string s] 9)):=((Below.refl _ w).alloc (Nat.le_refl _) _).alloc (by simp) _
 refine wpIn_rangeFunc_ownF rfl (by omega) (gf:=66) (lb:=#[.pointer (some ⟨w.heap.size+1,0,none⟩)]) rfl trivial (enters_of Tryz.func66 (by kernel_rfl) rfl)
  (all_stops 4 (by omega) (w.heap.size+1) s (by unfold maxLen;omega) _ (by simp) b1.cell) kpA_t kpA_b (Below.refl _ _) (fun _=>rfl)
  (fun pre W=>CI s w.heap.size pre W∧Below w.heap.size w W)
  (fun _ _ _=>False)
  (OwnFrom.and (Own.from (CI_own _ _) _) (ownFrom_below (Nat.le_refl _) (by simp;omega)))
  (fun _ _ _ _ _ hs _ _=>hs)
  ⟨⟨_,b0.alloc _,World.ownsRow_nil _ _ _ _,b1⟩,hB0⟩
  (fun x => { tmps:=#[.string s,undef,.slice none 0 0,.pointer (some ⟨w.heap.size,0,none⟩),undef,.int .i64 x.1.2,.string s,.func (.func 66) #[] #[.pointer (some ⟨w.heap.size+1,0,none⟩)],.int .i64 x.1.1,.int .i64 x.1.2,undef,undef,undef,undef,undef],defers:=[] }) ?assign ?body ?done ?stop
 case assign=>
  intro l x W K hK
  gi_wp2
  exact hK
 case body=>
  as_aux_lemma=>
   rintro l pre x W ⟨⟨v,h1,h2,h3⟩,hB⟩ hlt
   clear b0 b1 hB0
   have c1:=h1.cell
   have hz:=hB.size
   gi_wp2_with (gi_at_builtin;go_must (refine wpListIn_append_own _ rfl _ _ 46 rfl w.heap.size 3 i0 (.int .i64 0) 1 8 Tryz.underlying46 hi hz0 hz1 hz2 rfl (by decide) _ _ _ rfl (h2.alloc _) ⟨W.heap.size,0,none⟩ 1 1 [.int .i64 (x.1.2:Int)] rfl rfl (cell_one_new _ _ _) (by simp [Value.oneCell']) (by unfold maxLen;omega) (by omega) (by rw [World.size_alloc];omega) ?_);intro v' w1 hown' hgrow _;obtain ⟨g',cap',rfl⟩:=ownsRow_succ hown';obtain ⟨hv1,hv2,hr2,hk2,hb2⟩:=h1.appended (by decide) h2 hz (Nat.le_refl _) hown' hgrow;have hc1:=hv1.cell;have hf1:=hv1.frozen)
   have m3:=((h3.alloc _).kept hgrow (h3.not_row (by decide) h2)).other (B':=w.heap.size) (by omega) (.slice (some ⟨g',0,none⟩) (pre.length+1) cap')
   have hlen:(pre++[x]).length=pre.length+1:=by simp
   refine ⟨hk2,kpA_of hk2 (fun u hu => ?_),⟨_,hv2,?_,m3⟩,hB.trans (hb2.mono (Nat.le_refl _))⟩
   · rw [h3.cell] at hu
     rw [m3.cell];exact hu
   · rw [hlen,vals_snoc,us_snoc]
     exact hr2
 case done=>
  as_aux_lemma=>
   rintro D ys W hD hys ⟨⟨v,h1,h2,h3⟩,hB⟩ hK
   have HT:Hid (units s=vals ys):=hys.symm
   clear b0 b1 hB0 hys
   have c1:=h1.cell
   gi_wp2
   refine ⟨by simp,.inl ⟨_,_,rfl,run_takeDeferred hK,?_⟩⟩
   refine ⟨_,results_tmp rfl _ _ _,v,rfl,?_,hB.trans (belowK_b (w:=w) (Nat.le_refl _) W D _ _ (by simp at hD;omega) hK rfl rfl)⟩
   rw [HT.out,vals_length]
   exact ownsRow_putObj h2 _ hK rfl
 case stop=>
  rintro D c pre W _ _ h _
  exact h.elim
def borderU (s:ByteArray) (p:Nat):Bool:=(units (s.extract (p - 3) (min s.size (p+3)))).any (fun x=>p - 3+x.1 == p) || p == s.size
set_option maxHeartbeats 1000000 in
theorem border_in (s:ByteArray) (p:Nat) (w:World) (hs:s.size≤4611686018427387904) (hp:p≤s.size):Calls Tryz.prog 19 #[.string s,.int .i64 p] w fun e w'=>e = .returned (.bool (borderU s p))∧Below w.heap.size w w':=by
 obtain ⟨q,hq⟩:∃ q:Int,q=p:=⟨_,rfl⟩
 rw [←hq]
 have hq0:0≤q:=by omega
 have hq1:q≤s.size:=by omega
 have hg1:decide (q<0)=false:=by simp;omega
 have hg2:decide ((s.size:Int)<q)=false:=by simp;omega
 have HQ:Hid (q=p):=hq
 clear hq
 refine (callsIn_wide (n:=5)).1 ?_
 refine callsIn_of_wp_marks Tryz.func19 rfl trivial ?_ rfl
 simp only [Tryz.ntmps19,List.size_toArray,List.length_cons,List.length_nil,Nat.reduceAdd,Nat.reduceSub,Array.replicate_succ,Array.replicate_zero,List.push_toArray,List.append_toArray,List.nil_append,List.cons_append]
 gi_wp2_with fail
 gi_region
 gi_wp2_with (refine ⟨trivial,?_⟩;gi_at_call 44;refine (callsIn_wide.2 (uall_any _ _)).mono ?_;rintro e w' ⟨rfl,rfl⟩)
 obtain ⟨t,ht⟩:∃ t,s.extract (max 0 (q - 3)).toNat (min (s.size:Int) (q+3)).toNat=t:=⟨_,rfl⟩
 have hf0:0≤max 0 (q - 3):=by omega
 have hf1:max 0 (q - 3)≤q:=by omega
 have HT:Hid (t=s.extract (p - 3) (min s.size (p+3))∧max 0 (q - 3)=((p - 3:Nat):Int)):=by
  have e1:=HQ.out
  refine ⟨?_,by omega⟩
  rw [←ht];congr 1 <;> omega
 have htl:t.size≤4611686018427387904:=by rw [←ht];simp [ByteArray.size_extract];omega
 rw [ht]
 clear ht
 obtain ⟨g,hg⟩:∃ g,min (s.size:Int) (q+3)=g:=⟨_,rfl⟩
 rw [hg]
 clear hg
 generalize max 0 (q - 3)=f at HT hf0 hf1 ⊢
 have b0:Boxed (w.alloc (.cells #[.int .i64 q] 3)) w.heap.size 3 (.int .i64 q):=Boxed.new _ _ _
 have b1:Boxed ((w.alloc (.cells #[.int .i64 q] 3)).alloc (.cells #[.bool false] 4)) (w.heap.size+1) 4 (.bool false):=by have:=Boxed.new (w.alloc (.cells #[.int .i64 q] 3)) 4 (.bool false);rwa [World.size_alloc] at this
 have b2:Boxed (((w.alloc (.cells #[.int .i64 q] 3)).alloc (.cells #[.bool false] 4)).alloc (.cells #[.int .i64 f] 3)) (w.heap.size+1+1) 3 (.int .i64 f):=by have:=Boxed.new ((w.alloc (.cells #[.int .i64 q] 3)).alloc (.cells #[.bool false] 4)) 3 (.int .i64 f);rwa [World.size_alloc,World.size_alloc] at this
 have b3:Boxed ((((w.alloc (.cells #[.int .i64 q] 3)).alloc (.cells #[.bool false] 4)).alloc (.cells #[.int .i64 f] 3)).alloc (.cells #[.string t] 9)).drew (w.heap.size+1+1+1) 9 (.string t):=by have:=Boxed.new (((w.alloc (.cells #[.int .i64 q] 3)).alloc (.cells #[.bool false] 4)).alloc (.cells #[.int .i64 f] 3)) 9 (.string t);rwa [World.size_alloc,World.size_alloc,World.size_alloc] at this
 have hB0:Below w.heap.size w ((((w.alloc (.cells #[.int .i64 q] 3)).alloc (.cells #[.bool false] 4)).alloc (.cells #[.int .i64 f] 3)).alloc (.cells #[.string t] 9)).drew:=(((((Below.refl _ w).alloc (Nat.le_refl _) _).alloc (by simp) _).alloc (by simp;omega) _).alloc (by simp;omega) _).drew
 refine wpIn_rangeFunc_ownF rfl (by omega) (gf:=66) (lb:=#[.pointer (some ⟨w.heap.size+1+1+1,0,none⟩)]) rfl trivial (enters_of Tryz.func66 (by kernel_rfl) rfl)
  (all_stops 4 (by omega) (w.heap.size+1+1+1) t (by unfold maxLen;omega) _ (by simp) b3.cell) kpA_t kpA_b (Below.refl _ _) (fun _=>rfl)
  (fun pre W=>((∀ x∈vals pre,f+(x.1:Int)≠q)∧Boxed W w.heap.size 3 (.int .i64 q)∧Boxed W (w.heap.size+1) 4 (.bool false)∧Boxed W (w.heap.size+1+1) 3 (.int .i64 f))∧Below w.heap.size w W)
  (fun c pre W=>(c = .ret∧(∃ x∈vals pre,f+(x.1:Int)=q)∧Boxed W (w.heap.size+1) 4 (.bool true))∧Below w.heap.size w W)
  (OwnFrom.and (Own.from (fun s A B row hs hg hr=>⟨hs.1,boxed_kept hs.2.1 hg hr,boxed_kept hs.2.2.1 hg hr,boxed_kept hs.2.2.2 hg hr⟩) _) (ownFrom_below (Nat.le_refl _) (by simp;omega)))
  (fun c=>OwnFrom.and (Own.from (fun s A B row hs hg hr=>⟨hs.1,hs.2.1,boxed_kept hs.2.2 hg hr⟩) _) (ownFrom_below (Nat.le_refl _) (by simp;omega)))
  ⟨⟨by simp [vals],((b0.alloc _).alloc _).alloc _,(b1.alloc _).alloc _,b2.alloc _⟩,hB0⟩
  (fun x => { tmps:=#[.string s,.int .i64 q,undef,.pointer (some ⟨w.heap.size,0,none⟩),.pointer (some ⟨w.heap.size+1,0,none⟩),.pointer (some ⟨w.heap.size+1+1,0,none⟩),.int .i64 g,.int .i64 x.1.1,.int .i64 q,.bool false,.bool false,.int .i64 q,.string s,.int .i64 s.size,.bool false,.bool false,.int .i64 q,.int .i64 (q - 3),.int .i64 f,.string s,.int .i64 s.size,.int .i64 q,.int .i64 (q+3),.int .i64 g,.string s,.int .i64 f,.int .i64 g,.string t,.func (.func 66) #[] #[.pointer (some ⟨w.heap.size+1+1+1,0,none⟩)],.int .i64 x.1.1,.int .i64 x.1.2,undef,undef,undef,undef,undef,undef,undef,undef,undef],defers:=[] }) ?assign ?body ?done ?stop
 case assign=>
  intro l x W K hK
  gi_wp2
  exact hK
 case body=>
  as_aux_lemma=>
   rintro l pre x W ⟨⟨hp,h0,h1,h2⟩,hB⟩ _
   have HP:Hid (∀ x∈vals pre,f+(x.1:Int)≠q):=hp
   clear hp b0 b1 b2 b3 hB0
   have c0:=h0.cell
   have c1:=h1.cell
   have f1:=h1.frozen
   have c2:=h2.cell
   have hx:=x.2.1
   have hx':(x.1.1:Int)<4611686018427387904:=by omega
   by_cases he:f+(x.1.1:Int)=q
   · have he':(f+(x.1.1:Int) == q)=true:=by simpa using he
     have HE:Hid (f+(x.1.1:Int)=q):=he
     clear he
     gi_wp2
     exact ⟨KeepsOthers.setCell _ _ _,⟨rfl,⟨x.1,by rw [vals_snoc];simp,HE.out⟩,h1.set _⟩,hB.setCell (p:=⟨w.heap.size+1,0,none⟩) (by simp) _⟩
   · have he':(f+(x.1.1:Int) == q)=false:=by simpa using he
     gi_wp2
     exact ⟨KeepsOthers.refl _,⟨fun _ _ _ h=>h,fun v hv=>hv⟩,⟨fun y hy=>by rw [vals_snoc,List.mem_append,List.mem_singleton] at hy;rcases hy with hy | rfl;exact HP.out y hy;exact he,h0,h1,h2⟩,hB⟩
 case done=>
  as_aux_lemma=>
   rintro D ys W hD hys ⟨⟨hp,h0,h1,h2⟩,hB⟩ hK
   have HO:Hid (borderU s p=(q == (s.size:Int))):=by
    show borderU s p=(q == (s.size:Int))
    obtain ⟨e1,e2⟩:=HT.out
    unfold borderU
    rw [←e1,←hys]
    have:(vals ys).any (fun x=>p - 3+x.1 == p)=false:=by
     rw [List.any_eq_false]
     intro x hx
     have:=hp x hx
     have e3:=HQ.out
     simp;omega
    rw [this,Bool.false_or,Bool.eq_iff_iff,beq_iff_eq,beq_iff_eq]
    have e3:=HQ.out
    omega
   clear hp b0 b1 b2 b3 hB0
   have c0:=h0.cell
   have c1:=h1.cell
   have f1:=h1.frozen
   gi_wp2
   have hK':=(KeepsOthers.setCell W ⟨w.heap.size+1,0,none⟩ (.bool (q == (s.size:Int)))).same D _ hK rfl
   refine ⟨by simp,.inl ⟨_,_,rfl,run_takeDeferred hK',?_⟩⟩
   have g1:=(boxed_putObj (h1.set (.bool (q == (s.size:Int)))) (.deferred none) hK' rfl).cell
   refine ⟨.bool (q == (s.size:Int)),?_,by rw [HO.out],(hB.setCell (p:=⟨w.heap.size+1,0,none⟩) (by simp) _).trans (belowK_b (w:=w) (Nat.le_refl _) _ D _ _ (by simp at hD;omega) hK' rfl rfl)⟩
   simp [results,Tryz.f19,go_sem,g1]
 case stop=>
  as_aux_lemma=>
   rintro D c pre W hD hpre ⟨⟨rfl,⟨x,hx,he⟩,h1⟩,hB⟩ hK
   have HO:Hid (borderU s p=true):=by
    show borderU s p=true
    obtain ⟨e1,e2⟩:=HT.out
    unfold borderU
    rw [←e1,Bool.or_eq_true]
    refine .inl (List.any_eq_true.2 ⟨x,hpre.1.subset hx,?_⟩)
    have e3:=HQ.out
    simp;omega
   clear b0 b1 b2 b3 hB0 he hx hpre
   gi_wp2
   refine ⟨by simp,.inl ⟨_,_,rfl,run_takeDeferred hK,?_⟩⟩
   have g1:=(boxed_putObj h1 (.deferred none) hK rfl).cell
   refine ⟨.bool true,?_,by rw [HO.out],hB.trans (belowK_b (w:=w) (Nat.le_refl _) W D _ _ (by simp at hD;omega) hK rfl rfl)⟩
   simp [results,Tryz.f19,go_sem,g1]
theorem dec2 (s:ByteArray) (p c:Nat) (h0:128≤c) (h1:c<2048) (hs:p+1<s.size) (b0:(s.get! p).toNat=192+c / 64) (b1:(s.get! (p+1)).toNat=128+c % 64):Utf8.decode s p=(c,2):=by
 unfold Utf8.decode
 simp only [Nat.add_zero,b0,b1]
 rw [if_neg (by omega),if_pos (by simp [hs];omega),if_pos (by omega)]
 rw [Prod.mk.injEq];omega
theorem dec4 (s:ByteArray) (p c:Nat) (h0:65536≤c) (h1:c<1114112) (hs:p+3<s.size) (b0:(s.get! p).toNat=240+c / 262144) (b1:(s.get! (p+1)).toNat=128+c / 4096 % 64) (b2:(s.get! (p+2)).toNat=128+c / 64 % 64) (b3:(s.get! (p+3)).toNat=128+c % 64):Utf8.decode s p=(c,4):=by
 have hs1:p+1<s.size:=by omega
 have hs2:p+2<s.size:=by omega
 unfold Utf8.decode
 simp only [Nat.add_zero,b0,b1,b2,b3]
 rw [if_neg (by omega),if_neg (by simp;omega),if_neg (by simp;omega),if_pos (by simp [hs,hs1,hs2];omega)]
 have e:(240+c / 262144) % 8*262144+(128+c / 4096 % 64) % 64*4096+(128+c / 64 % 64) % 64*64+(128+c % 64) % 64=c:=by omega
 rw [e,if_pos (by simp [Utf8.valid];omega)]
theorem uw_le (s:ByteArray) (p:Nat):uw s p≤4:=by
 unfold uw Utf8.decode
 simp only
 repeat' split
 all_goals simp
theorem Form.move {s t:ByteArray} {p r c n:Nat} (h:Form s p c n) (hr:r+n≤t.size) (he:∀ k,k<n→(t.get! (r+k)).toNat=(s.get! (p+k)).toNat):Form t r c n:=by
 obtain ⟨_,_,h⟩:=h
 have e0:=he 0
 have e1:=he 1
 have e2:=he 2
 have e3:=he 3
 simp only [Nat.add_zero] at e0
 rcases h with ⟨rfl,a,b,b0,b1⟩ | ⟨rfl,a,b,v,b0,b1,b2⟩ | ⟨rfl,a,b,b0,b1,b2,b3⟩
 · have c0:=(e0 (by omega)).trans b0
   have c1:=(e1 (by omega)).trans b1
   exact ⟨hr,dec2 t r c a b (by omega) c0 c1,.inl ⟨rfl,a,b,c0,c1⟩⟩
 · have c0:=(e0 (by omega)).trans b0
   have c1:=(e1 (by omega)).trans b1
   have c2:=(e2 (by omega)).trans b2
   exact ⟨hr,dec3 t r c a b v (by omega) c0 c1 c2,.inr (.inl ⟨rfl,a,b,v,c0,c1,c2⟩)⟩
 · have c0:=(e0 (by omega)).trans b0
   have c1:=(e1 (by omega)).trans b1
   have c2:=(e2 (by omega)).trans b2
   have c3:=(e3 (by omega)).trans b3
   exact ⟨hr,dec4 t r c a b (by omega) c0 c1 c2 c3,.inr (.inr ⟨rfl,a,b,c0,c1,c2,c3⟩)⟩
theorem Form.uw {s:ByteArray} {p c n:Nat} (h:Form s p c n):uw s p=n:=by unfold Go.Proofs.uw;rw [h.2.1]
theorem unitsN_ge (s:ByteArray):∀ k q x,x∈unitsN s k q→q≤x.1
 | 0,q,x,h=>by simp [unitsN] at h
 | k+1,q,x,h=>by
  by_cases hp:q<s.size
  · rw [unitsN_step s k q hp,List.mem_cons] at h
    rcases h with rfl | h
    · exact Nat.le_refl _
    · have:=unitsN_ge s k (q+Go.Proofs.uw s q) x h;omega
  · rw [unitsN_end s _ q hp] at h;cases h
def bord (s:ByteArray) (p:Nat):Prop:=∀ q,q<p→q+uw s q≤p
theorem bord_zero (s:ByteArray):bord s 0:=fun q h=>by omega
theorem bord_size (s:ByteArray):bord s s.size:=fun q h=>by
 by_cases h1:1<uw s q
 · exact (uw_many s q h1).1
 · omega
theorem bord_next {s:ByteArray} {q:Nat} (h:bord s q):bord s (q+uw s q):=fun r hr=>by
 by_cases h1:r<q
 · have:=h r h1;omega
 · by_cases h2:r=q
   · subst h2;omega
   · have hm:=uw_many s q (by omega)
     have hc:=hm.2.2 (r - q) (by omega) (by omega)
     rw [show q+(r - q)=r by omega] at hc
     by_cases h3:1<uw s r
     · have:=(uw_many s r h3).2.1;omega
     · omega
theorem places_iff (s:ByteArray) (p:Nat) (hp:p<s.size):∀ k q,s.size≤q+k→bord s q→q≤p→((∃ x∈unitsN s k q,x.1=p)↔bord s p)
 | 0,q,hk,_,hq=>by omega
 | k+1,q,hk,hb,hq=>by
  rw [unitsN_step s k q (by omega)]
  have hpos:=uw_pos s q
  by_cases h:q+uw s q≤p
  · have ih:=places_iff s p hp k (q+uw s q) (by omega) (bord_next hb) h
    rw [←ih]
    constructor
    · rintro ⟨x,hx,rfl⟩
      rw [List.mem_cons] at hx
      rcases hx with rfl | hx
      · simp only at h;omega
      · exact ⟨x,hx,rfl⟩
    · rintro ⟨x,hx,rfl⟩
      exact ⟨x,List.mem_cons_of_mem _ hx,rfl⟩
  · by_cases he:p=q
    · subst he
      exact ⟨fun _=>hb,fun _=>⟨_,List.mem_cons_self ..,rfl⟩⟩
    · constructor
      · rintro ⟨x,hx,rfl⟩
        rw [List.mem_cons] at hx
        rcases hx with rfl | hx
        · exact absurd rfl he
        · have:=unitsN_ge s k (q+uw s q) x hx
          omega
      · intro hbp
        have:=hbp q (by omega)
        omega
theorem bord_local (s:ByteArray) (p:Nat) (hp:p≤s.size):bord (s.extract (p - 3) (min s.size (p+3))) (p - (p - 3))↔bord s p:=by
 obtain ⟨f,hf⟩:∃ f,p - 3=f:=⟨_,rfl⟩
 obtain ⟨e,he⟩:∃ e,min s.size (p+3)=e:=⟨_,rfl⟩
 rw [hf,he]
 have hz:(s.extract f e).size=e - f:=by simp [ByteArray.size_extract];omega
 constructor
 · intro h q hq
   by_cases h1:1<uw s q
   · by_cases h2:q+uw s q≤p
     · exact h2
     · obtain ⟨c,F⟩:=form_of s q h1
       have h4:=uw_le s q
       have hsz:=F.1
       have F2:=F.move (t:=s.extract f e) (r:=q - f) (by rw [hz];omega) (fun k hk=>by rw [get_ext s f e _ (by omega) (by omega),show f+(q - f+k)=q+k by omega])
       have:=h (q - f) (by omega)
       rw [F2.uw] at this
       omega
   · omega
 · intro h r hr
   by_cases h1:1<uw (s.extract f e) r
   · obtain ⟨c,F⟩:=form_of _ r h1
     have hsz:=F.1
     rw [hz] at hsz
     have F2:=F.move (t:=s) (r:=f+r) (by omega) (fun k hk=>by rw [get_ext s f e _ (by omega) (by omega),show f+(r+k)=f+r+k by omega])
     have:=h (f+r) (by omega)
     rw [F2.uw] at this
     omega
   · omega
theorem border_iff (s:ByteArray) (p:Nat) (hp:p≤s.size):borderU s p=true↔bord s p:=by
 unfold borderU
 rw [Bool.or_eq_true,beq_iff_eq,List.any_eq_true]
 by_cases h:p=s.size
 · subst h
   exact ⟨fun _=>bord_size s,fun _ => .inr rfl⟩
 · rw [←bord_local s p hp]
   have hz:(s.extract (p - 3) (min s.size (p+3))).size=min s.size (p+3) - (p - 3):=by rw [ByteArray.size_extract];omega
   have:=places_iff (s.extract (p - 3) (min s.size (p+3))) (p - (p - 3)) (by rw [hz];omega) (s.extract (p - 3) (min s.size (p+3))).size 0 (by omega) (bord_zero _) (Nat.zero_le _)
   rw [←this]
   constructor
   · rintro (⟨x,hx,he⟩ | he)
     · rw [beq_iff_eq] at he
       exact ⟨x,hx,by omega⟩
     · exact absurd he h
   · rintro ⟨x,hx,he⟩
     exact .inl ⟨x,hx,by rw [beq_iff_eq];omega⟩
theorem same_at {s t:ByteArray} {p r:Nat} (h:∀ k,p+k<s.size→r+k<t.size→t.get! (r+k)=s.get! (p+k)) (hp0:p<s.size) (hr0:r<t.size) (hr:r+uw s p≤t.size) (hp:p+uw t r≤s.size):uw t r=uw s p∧uAt t r=uAt s p:=by
 have hb:t.get! r=s.get! p:=h 0 (by omega) (by omega)
 have hd:Utf8.decode t r=Utf8.decode s p:=by
  by_cases h1:1<uw s p
  · obtain ⟨c,F⟩:=form_of s p h1
    have F2:=F.move hr (fun k hk=>by rw [h k (by have:=F.1;omega) (by omega)])
    rw [F2.2.1,F.2.1]
  · by_cases h2:1<uw t r
    · obtain ⟨c,F⟩:=form_of t r h2
      have F2:=F.move (t:=s) (r:=p) hp (fun k hk=>by rw [h k (by omega) (by have:=F.1;omega)])
      rw [F2.uw] at h1
      omega
    · have a1:=uw_pos s p
      have a2:=uw_pos t r
      rcases one_wide s p (by omega) with ⟨x1,y1⟩ | ⟨x1,y1⟩ <;> rcases one_wide t r (by omega) with ⟨x2,y2⟩ | ⟨x2,y2⟩
      · rw [y1,y2,hb]
      · rw [hb] at x2;omega
      · rw [hb] at x2;omega
      · rw [y1,y2]
 refine ⟨by unfold uw;rw [hd],?_⟩
 have hs:strayAt t r=strayAt s p:=by rw [Bool.eq_iff_iff,stray_iff,stray_iff,hd]
 unfold uAt
 rw [hs,hd,hb]
def kyd (rs:List Rl) (u:Int):Bool:=rs.any fun r=>r.key.any fun g=>hasB g u
theorem kyd_of {rs:List Rl} (hc:∀ r∈rs,chk r=0) {d l:List Int} {u:Int} (hu:l[0]? = some u) {i:Nat} (_hi:i<rs.length) (h:nxtK rs d l rs.length=i):kyd rs u=true:=by
 rcases nxtK_is rs d l rs.length (Nat.le_refl _) with e | ⟨j,hj,_,h1,h2⟩
 · omega
 · have hO:=chk_ok (hc _ (List.getElem_mem hj))
   have hk:stB rs[j].key (l.take rs[j].key.length)=true:=by
    unfold stF at h2
    split at h2
    · cases h2
    · split at h2
      · cases h2
      · simp only [Bool.and_eq_true] at h2
        exact h2.1.1
   have h3:=((stB_iff _ _).1 hk).2 0 (rs[j].key[0]'hO.k0) u (List.getElem?_eq_getElem hO.k0) (by rw [List.getElem?_take,if_pos hO.k0];exact hu)
   unfold kyd
   rw [List.any_eq_true]
   exact ⟨rs[j],List.getElem_mem hj,by rw [List.any_eq_true];exact ⟨rs[j].key[0]'hO.k0,List.getElem_mem _,h3⟩⟩
def Sfx (s:ByteArray) (p:Nat) (l:List Int):Prop:=l=intsU (unitsN s s.size p)∧p≤s.size∧bord s p
theorem Sfx.step {s:ByteArray} {p:Nat} {l:List Int} (h:Sfx s p l) (hl:0<l.length):p<s.size∧l[0]? = some (uAt s p:Int)∧Sfx s (p+uw s p) (l.drop 1):=by
 obtain ⟨h1,h2,h3⟩:=h
 have hp:p<s.size:=by
  rcases Nat.lt_or_ge p s.size with e | e
  · exact e
  · rw [h1,unitsN_end s _ p (by omega)] at hl;simp [intsU] at hl
 rw [units_next s p hp] at h1
 refine ⟨hp,by rw [h1];rfl,?_,uw_in s p hp,bord_next h3⟩
 rw [h1];rfl
theorem Sfx.drop {s:ByteArray} : ∀ (k:Nat) {p:Nat} {l:List Int},Sfx s p l→k≤l.length→∃ p',p≤p'∧Sfx s p' (l.drop k)∧(0<k→p<s.size∧p+uw s p≤p')
 | 0,p,l,h,_=>⟨p,Nat.le_refl _,by simpa using h,fun e=>by omega⟩
 | k+1,p,l,h,hk=>by
  obtain ⟨h1,_,h3⟩:=h.step (by omega)
  obtain ⟨p',h4,h5,_⟩:=Sfx.drop k h3 (by rw [List.length_drop];omega)
  rw [List.drop_drop,Nat.add_comm 1 k] at h5
  have:=uw_pos s p
  exact ⟨p',by omega,h5,fun _=>⟨h1,h4⟩⟩
theorem Sfx.wds {s:ByteArray} {p:Nat} {l:List Int} (h:Sfx s p l):Go.Proofs.wds l=(s.size:Int) - p:=by
 have:=clean_at h.2.1
 unfold lfO at this
 simp only [List.reverse_nil,List.nil_append] at this
 rw [h.1];exact this
theorem Sfx.end' {s:ByteArray} {p:Nat} (h:Sfx s p []):p=s.size:=by
 obtain ⟨h1,h2,_⟩:=h
 rcases Nat.lt_or_ge p s.size with e | e
 · rw [units_next s p e] at h1;cases h1
 · omega
def GB (s:ByteArray) (rs:List Rl) (d:List Int) (b:Bk):Prop:=∃ p q:Nat,b.1=p∧b.2.1=q∧p<s.size∧p+uw s p≤q∧q≤s.size∧bord s q∧b.2.2.2≤wds d∧(kyd rs (uAt s p)=true∨(q=p+uw s p∧∃ d0,d0++[(uAt s p:Int)] <+: d∧b.2.2.1=wds d0∧b.2.2.2=wds d0+uw s p))
theorem GB.more {s:ByteArray} {rs:List Rl} {d:List Int} {b:Bk} (h:GB s rs d b) (e:List Int):GB s rs (d++e) b:=by
 obtain ⟨p,q,h1,h2,h3,h4,h5,h6,h7,h8⟩:=h
 refine ⟨p,q,h1,h2,h3,h4,h5,h6,by have:=(wds_lim e).1;rw [wds_app];omega,h8.imp id ?_⟩
 rintro ⟨h9,d0,h10,h11⟩
 exact ⟨h9,d0,h10.trans (List.prefix_append _ _),h11⟩
structure GI (s:ByteArray) (rs:List Rl) (d l:List Int) (c:Nat) (bl:List Bk):Prop where
 cl:c≤l.length
 pl:∃ p,Sfx s p (l.drop c)∧((c=0∧sAt bl bl.length=p∧rAt bl bl.length=wds d)∨(0<c∧∃ q:Nat,sAt bl bl.length=q∧q<s.size∧q+uw s q≤p∧kyd rs (uAt s q)=true∧rAt bl bl.length≤wds d))
 jn:Join bl
 ok:∀ b∈bl,GB s rs d b
 un:AllU d∧AllU l
theorem outs_units {r:Rl} {us:List Int} (hl:layB r us=true):AllU (outs r us):=fun u hu=>by
 unfold outs at hu
 obtain ⟨p,hp,rfl⟩:=List.mem_map.1 hu
 exact (wr_any hl hp).w
theorem GI.step {s:ByteArray} {rs:List Rl} (hc:∀ r∈rs,chk r=0) {d l:List Int} {c:Nat} {bl:List Bk} (h:GI s rs d l c bl) (hl:l≠[]) :
 (AllU (layd rs d l)∧AllU (lefd rs d l))∧c - (stp rs d l).t.toNat+(stp rs d l).b.toNat≤(lefd rs d l).length∧∃ p',Sfx s p' ((lefd rs d l).drop (c - (stp rs d l).t.toNat+(stp rs d l).b.toNat))∧∃ q:Nat,sAt bl bl.length=q∧q<s.size∧q+uw s q≤p'∧rAt bl bl.length≤wds d∧(kyd rs (uAt s q)=true∨(c - (stp rs d l).t.toNat+(stp rs d l).b.toNat=0∧p'=q+uw s q∧layd rs d l=[(uAt s q:Int)]∧rAt bl bl.length=wds d)):=by
 have hl0:=List.length_pos_iff.2 hl
 obtain ⟨p,hp,hw⟩:=h.pl
 have hcl:=h.cl
 -- what a step takes
 have gen:∀ (t:Nat) (B:List Int),1≤t→t≤l.length→c - t+B.length≤(B++l.drop t).length∧∃ p',p≤p'∧Sfx s p' ((B++l.drop t).drop (c - t+B.length))∧(c<t→p<s.size∧p+uw s p≤p'):=fun t B h1 h2=>by
  have e:(B++l.drop t).drop (c - t+B.length)=(l.drop c).drop (t - c):=by
   rw [Nat.add_comm,List.drop_append,List.drop_of_length_le (by omega),List.nil_append,show B.length+(c - t) - B.length=c - t by omega,List.drop_drop,List.drop_drop]
   congr 1
   omega
  obtain ⟨p',h3,h4,h5⟩:=Sfx.drop (t - c) hp (by rw [List.length_drop];omega)
  refine ⟨by rw [List.length_append,List.length_drop];omega,p',h3,by rw [e];exact h4,fun hct=>h5 (by omega)⟩
 rcases nextS_ok hc d hl0 with ⟨h1,hok⟩ | ⟨i,hi,h1,h2,h3,hok⟩
 · obtain ⟨e1,e2,e3⟩:=stp_none h1
   obtain ⟨g1,p',g2,g3,g4⟩:=gen 1 [] (Nat.le_refl _) hl0
   rw [e1,e2,e3]
   refine ⟨⟨fun u hu=>h.un.2 u (List.mem_of_mem_take hu),fun u hu=>h.un.2 u (List.mem_of_mem_drop hu)⟩,g1,?_⟩
   rcases hw with ⟨w1,w2,w3⟩ | ⟨w1,q,w2,w3,w4,w5,w6⟩
   · subst w1
     have hp0:Sfx s p l:=by simpa using hp
     obtain ⟨k1,k2,k3⟩:=hp0.step hl0
     refine ⟨p+uw s p,k3,p,w2,k1,Nat.le_refl _,by omega,.inr ⟨rfl,rfl,?_,w3⟩⟩
     match l,k2 with
     | u::l',k2=>simp at k2;rw [k2];rfl
   · exact ⟨p',g3,q,w2,w3,by omega,w6,.inl w5⟩
 · obtain ⟨e1,e2,e3⟩:=stp_rule hi h1
   have hO:=chk_ok (hc _ (List.getElem_mem hi))
   have ho:(outs rs[i] (l.take rs[i].key.length)).length=rs[i].res.length:=by simp [outs]
   have hb:((outs rs[i] (l.take rs[i].key.length)).drop rs[i].cu.toNat).length=(backP rs[i]).length:=by rw [List.length_drop,ho];simp [backP]
   have hU:=outs_units h3
   obtain ⟨g1,p',g2,g3,g4⟩:=gen rs[i].key.length ((outs rs[i] (l.take rs[i].key.length)).drop rs[i].cu.toNat) hO.k0 h2
   rw [hb] at g1 g3
   rw [e1,e2,e3]
   refine ⟨⟨fun u hu=>hU u (List.mem_of_mem_take hu),AllU.append (fun u hu=>hU u (List.mem_of_mem_drop hu)) fun u hu=>h.un.2 u (List.mem_of_mem_drop hu)⟩,g1,?_⟩
   rcases hw with ⟨w1,w2,w3⟩ | ⟨w1,q,w2,w3,w4,w5,w6⟩
   · obtain ⟨k1,k2⟩:=g4 (by have:=hO.k0;omega)
     subst w1
     have hp0:Sfx s p l:=by simpa using hp
     obtain ⟨_,k4,_⟩:=hp0.step hl0
     exact ⟨p',g3,p,w2,k1,k2,by omega,.inl (kyd_of hc k4 hi h1)⟩
   · exact ⟨p',g3,q,w2,w3,by omega,w6,.inl w5⟩
theorem TrB.gi {s:ByteArray} {rs:List Rl} (hc:∀ r∈rs,chk r=0) {xs:List Stp} {d l:List Int} {c:Nat} {bl:List Bk} (h:TrB rs s.size (intsU (units s)) xs d l c bl):GI s rs d l c bl:=by
 induction h with
 | nil=>exact ⟨Nat.zero_le _,⟨0,⟨rfl,Nat.zero_le _,bord_zero s⟩,.inl ⟨rfl,rfl,rfl⟩⟩,fun j hj=>(by simp at hj),fun b hb=>(by cases hb),fun u hu=>(by cases hu),units_all s⟩
 | @on xs d l c bl h hl hne ih=>
  obtain ⟨⟨u1,u2⟩,g1,p',g2,q,g3,g4,g5,g6,g7⟩:=ih.step hc hl
  refine ⟨g1,⟨p',g2,.inr ⟨by omega,q,g3,g4,g5,?_,(by have:=(wds_lim (layd rs d l)).1;rw [wds_app];omega)⟩⟩,ih.jn,fun b hb=>(ih.ok b hb).more _,ih.un.1.append u1,u2⟩
  rcases g7 with e | ⟨e,_⟩
  · exact e
  · exact absurd e hne
 | @up xs d l c bl h hl h0 ih=>
  obtain ⟨⟨u1,u2⟩,g1,p',g2,q,g3,g4,g5,g6,g7⟩:=ih.step hc hl
  rw [h0] at g2
  have g2':Sfx s p' (lefd rs d l):=by simpa using g2
  have hS:(s.size:Int) - wds (lefd rs d l)=p':=by rw [g2'.wds];omega
  have hw:=(wds_lim (layd rs d l)).1
  have hup:=uw_pos s q
  obtain ⟨se,re⟩:=sAt_end bl (upB bl ((s.size:Int) - wds (lefd rs d l)) (wds (d++layd rs d l)))
  refine ⟨Nat.zero_le _,⟨p',by simpa using g2',.inl ⟨rfl,?_,?_⟩⟩,ih.jn.app ⟨rfl,rfl,?_,?_⟩,fun b hb => ?_,ih.un.1.append u1,u2⟩
  · rw [List.length_append,List.length_singleton,se];exact hS
  · rw [List.length_append,List.length_singleton,re];rfl
  · show sAt bl bl.length<(s.size:Int) - wds (lefd rs d l);rw [hS,g3];omega
  · show rAt bl bl.length≤wds (d++layd rs d l);rw [wds_app];omega
  · rcases List.mem_append.1 hb with hb | hb
    · exact (ih.ok b hb).more _
    · simp only [List.mem_singleton] at hb
      subst hb
      refine ⟨q,p',g3,hS,g4,g5,g2'.2.1,g2'.2.2,Int.le_refl _,?_⟩
      rcases g7 with e | ⟨_,e1,e2,e3⟩
      · exact .inl e
      · refine .inr ⟨e1,d,by rw [e2];exact List.prefix_refl _,e3,?_⟩
        show wds (d++layd rs d l)=_
        rw [wds_app,e2]
        simp only [wds]
        rw [wd_uAt]
        omega
theorem GI.fin {s:ByteArray} {rs:List Rl} {d:List Int} {c:Nat} {bl:List Bk} (h:GI s rs d [] c bl):sAt bl bl.length=(s.size:Int)∧rAt bl bl.length=wds d:=by
 obtain ⟨p,hp,hw⟩:=h.pl
 have hc:c=0:=by have:=h.cl;simp at this;exact this
 rcases hw with ⟨_,h2,h3⟩ | ⟨h1,_⟩
 · rw [List.drop_nil] at hp
   rw [h2,hp.end']
   exact ⟨rfl,h3⟩
 · omega
theorem ofNat_get (s:ByteArray) (p n:Nat) (h:(s.get! p).toNat=n):UInt8.ofNat n=s.get! p:=by rw [←h];simp
theorem drop_get (s:ByteArray) (p:Nat) (h:p<s.size):s.data.toList.drop p=s.get! p::s.data.toList.drop (p+1):=by
 rw [List.drop_eq_getElem_cons (by rw [←Lib.size_eq];exact h),get_bang s p h];rfl
theorem put_uAt (s:ByteArray) (p:Nat) (hp:p<s.size):(put (uAt s p)).data.toList=(s.data.toList.drop p).take (uw s p):=by
 by_cases h:1<uw s p
 · obtain ⟨c,F⟩:=form_of s p h
   have hns:strayAt s p=false:=by
    cases hs:strayAt s p with
    | false=>rfl
    | true=>have:=(stray_iff s p).1 hs;rw [F.2.1] at this;simp at this;omega
   have hu:uAt s p=c:=by rw [uAt_rune hns,F.2.1]
   rw [hu]
   obtain ⟨hz,_,hF⟩:=F
   obtain ⟨n,hn⟩:∃ n,uw s p=n:=⟨_,rfl⟩
   rw [hn] at hF hz ⊢
   rcases hF with ⟨rfl,a,b,b0,b1⟩ | ⟨rfl,a,b,v,b0,b1,b2⟩ | ⟨rfl,a,b,b0,b1,b2,b3⟩
   · rw [put_rune (by omega),enc2 c a b,ofNat_get s p _ b0,ofNat_get s (p+1) _ b1,drop_get s p (by omega),drop_get s (p+1) (by omega)]
     rfl
   · rw [put_rune (by omega),enc3 c a b v,ofNat_get s p _ b0,ofNat_get s (p+1) _ b1,ofNat_get s (p+2) _ b2,drop_get s p (by omega),drop_get s (p+1) (by omega),drop_get s (p+1+1) (by omega)]
     rfl
   · rw [put_rune (by omega),enc4 c a b,ofNat_get s p _ b0,ofNat_get s (p+1) _ b1,ofNat_get s (p+2) _ b2,ofNat_get s (p+3) _ b3,drop_get s p (by omega),drop_get s (p+1) (by omega),drop_get s (p+1+1) (by omega),drop_get s (p+1+1+1) (by omega)]
     rfl
 · have hpos:=uw_pos s p
   have hu:uw s p=1:=by omega
   rw [hu,drop_get s p hp]
   rcases one_wide s p hu with ⟨a,b⟩ | ⟨a,b⟩
   · have hns:strayAt s p=false:=by
      cases hs:strayAt s p with
      | false=>rfl
      | true=>have:=(stray_iff s p).1 hs;rw [b] at this;simp at this;omega
     have hv:uAt s p=(s.get! p).toNat:=by rw [uAt_rune hns,b]
     rw [hv,put_rune (by omega),enc1 _ a,ofNat_get s p _ rfl]
     rfl
   · have hlt:=(s.get! p).toNat_lt
     have hv:=uAt_stray ((stray_iff s p).2 b)
     rw [hv,put_stray (by omega),show (((1114112+(s.get! p).toNat:Nat):Int) - 1114112).toNat=(s.get! p).toNat by omega,ofNat_get s p _ rfl]
     rfl
theorem put_len (u:Int) (h:wd u≠0):((put u).data.toList.length:Int)=wd u:=by
 by_cases a:1114240≤u∧u≤1114367
 · rw [put_stray a,wd_stray a];rfl
 · by_cases b:(0≤u∧u<55296)∨(57343<u∧u≤1114111)
   · rw [put_rune b,wd_rune b]
     obtain ⟨c,rfl⟩:∃ c:Nat,u=c:=⟨u.toNat,by omega⟩
     unfold Lib.runeLen
     by_cases h1:c<128
     · rw [enc1 c h1,if_neg (by omega),if_pos (by omega)];rfl
     · by_cases h2:c<2048
       · rw [enc2 c (by omega) h2,if_neg (by omega),if_neg (by omega),if_pos (by omega)];rfl
       · by_cases h3:c<65536
         · rw [enc3 c (by omega) h3 (by omega),if_neg (by omega),if_neg (by omega),if_neg (by omega),if_neg (by omega),if_pos (by omega)];rfl
         · rw [enc4 c (by omega) (by omega),if_neg (by omega),if_neg (by omega),if_neg (by omega),if_neg (by omega),if_neg (by omega),if_pos (by omega)];rfl
   · exact absurd (by unfold wd;rw [if_neg a,if_neg b]) h
theorem joinB_app:∀ {a b:List Int} {x y:List UInt8},joinB a=some x→joinB b=some y→joinB (a++b)=some (x++y)
 | [],b,x,y,h1,h2=>by injection h1 with h1;subst h1;exact h2
 | u::a,b,x,y,h1,h2=>by
  by_cases hw:wd u=0
  · simp [joinB,hw] at h1
  · rw [joinB_step hw] at h1
    rw [Option.map_eq_some_iff] at h1
    obtain ⟨z,h3,h4⟩:=h1
    rw [List.cons_append,joinB_step hw,joinB_app h3 h2,←h4]
    simp
theorem joinB_all:∀ {a:List Int},AllU a→∃ x,joinB a=some x∧(x.length:Int)=wds a
 | [],_=>⟨[],rfl,rfl⟩
 | u::a,h=>by
  have hw:wd u≠0:=h u (by simp)
  obtain ⟨x,h1,h2⟩:=joinB_all (a:=a) fun v hv=>h v (by simp [hv])
  refine ⟨(put u).data.toList++x,by rw [joinB_step hw,h1];rfl,?_⟩
  have:=put_len u hw
  simp only [wds,List.length_append]
  omega
def kyK (ss:List (List (Int × Int))) (u:Int):Bool:=ss.any fun g=>hasB g u
theorem kyd_eq (rs:List Rl) (u:Int):kyd rs u=rs.any fun r=>kyK r.key u:=rfl
theorem any_take_false {α:Type} {l:List α} {f:α→Bool} {i:Nat} (h:(l.take i).any f=false) (hi:i<l.length) (hf:f l[i]=false):(l.take (i+1)).any f=false:=by
 rw [List.take_succ_eq_append_getElem hi,List.any_append,h,Bool.false_or]
 simpa using hf
theorem any_at {α:Type} {l:List α} {f:α→Bool} {i:Nat} (hi:i<l.length) (hf:f l[i]=true):l.any f=true:=List.any_eq_true.2 ⟨_,List.getElem_mem hi,hf⟩
set_option maxHeartbeats 8000000 in
theorem keyed_any (v:Value) (rs:List Rl) (u:Int) (w:World) (hT:Tab w) (h:PsR w v rs) (hn:rs.length≤1000000) (hk:∀ r∈rs,r.key.length≤1000000):Calls Tryz.prog 21 #[.agg #[v],.int .i64 u] w fun e w'=>e = .returned (.bool (kyd rs u))∧Grown w w':=by
 obtain ⟨va,vc,hv,_,hh⟩:=id h
 obtain ⟨vn,hvn⟩:∃ n,rs.length=n:=⟨_,rfl⟩
 rw [hvn] at hv
 subst hv
 have HN:Hid (rs.length=vn):=hvn
 have HH:=Hid.mk' hh
 have HT:=Hid.mk' hT
 have HKL:=Hid.mk' hk
 have hnI:(vn:Int)≤1000000:=by omega
 clear h hh hT hk hvn
 go_enter Tryz.func21,Tryz.ntmps21
 go_wp2
 go_loopg [12] vn (fun q s12 wr=>∃ i:Nat,s12 = .int .i64 (i:Int)∧i≤vn∧vn - i≤q∧Hid (Grown w wr∧(rs.take i).any (fun r=>kyK r.key u)=false))
 case atStart=>exact ⟨0,rfl,by omega,by omega,(Grown.refl w).alloc _,by simp⟩
 case round=>
  obtain ⟨i,rfl,hi1,hi2,HR⟩:=hrel
  have hiI:(i:Int)≤1000000:=by omega
  obtain ⟨wo,hwo⟩:∃ x,x=wr:=⟨_,rfl⟩
  subst hwo
  by_cases hil:i<vn
  · have hilI:(i:Int)<(vn:Int):=by omega
    have hir:i<rs.length:=by rw [HN.out];exact hil
    obtain ⟨g,o,hae,hrd⟩:=HH.out.resolve_left (fun e=>by rw [e] at hir;simp at hir)
    subst hae
    obtain ⟨av,kv,pv,rv,c0,c1,c2,c3,c4,c5,c6,hRR⟩:=hrd i hir
    obtain ⟨xb,hxb⟩:∃ x,rs[i].bg=x:=⟨_,rfl⟩
    obtain ⟨xe,hxe⟩:∃ x,rs[i].en=x:=⟨_,rfl⟩
    obtain ⟨xc,hxc⟩:∃ x,rs[i].cu=x:=⟨_,rfl⟩
    rw [hxb] at c0
    rw [hxe] at c4
    rw [hxc] at c6
    obtain ⟨a1,y1,e1,_⟩:=hRR.a
    obtain ⟨ka,kc,e2,_,hks⟩:=hRR.k
    obtain ⟨a3,y3,e3,_⟩:=hRR.p
    obtain ⟨a5,y5,e5,_⟩:=hRR.r
    generalize rs[i].ante.length=n1 at e1
    generalize rs[i].post.length=n3 at e3
    generalize rs[i].res.length=n5 at e5
    obtain ⟨kn,hkn⟩:∃ n,rs[i].key.length=n:=⟨_,rfl⟩
    rw [hkn] at e2
    have hkb:kn≤1000000:=by rw [←hkn];exact HKL.out _ (List.getElem_mem hir)
    have hkI:(kn:Int)≤1000000:=by omega
    obtain ⟨ks,hkse⟩:∃ ks,rs[i].key=ks:=⟨_,rfl⟩
    rw [hkse] at hks hkn
    subst e1
    subst e2
    subst e3
    subst e5
    have HKS:Hid (rs[i].key=ks∧ks.length=kn):=⟨hkse,hkn⟩
    have HS:=Hid.mk' hks
    have c0:=HR.out.1.cellv c0
    have c1:=HR.out.1.cellv c1
    have c2:=HR.out.1.cellv c2
    have c3:=HR.out.1.cellv c3
    have c4:=HR.out.1.cellv c4
    have c5:=HR.out.1.cellv c5
    have c6:=HR.out.1.cellv c6
    clear hrd hRR hxb hxe hxc hks hkn hkse
    go_wp2
    go_loopg [19] kn (fun q s19 wr=>∃ j:Nat,s19 = .int .i64 (j:Int)∧j≤kn∧kn - j≤q∧Hid (Grown w wr∧(ks.take j).any (fun g=>hasB g u)=false))
    case atStart=>exact ⟨0,rfl,by omega,by omega,HR.out.1.alloc _,by simp⟩
    case round=>
     obtain ⟨j,rfl,hj1,hj2,HR2⟩:=hrel
     have hjI:(j:Int)≤1000000:=by omega
     by_cases hjl:j<kn
     · have hjlI:(j:Int)<(kn:Int):=by omega
       have hjk:j<ks.length:=by rw [HKS.out.2];exact hjl
       obtain ⟨kg,ko,hka,hkr⟩:=HS.out.resolve_left (fun e=>by rw [e] at hjk;simp at hjk)
       subst hka
       obtain ⟨sv,k0,hsv⟩:=hkr j hjk
       have hsv':=hsv
       obtain ⟨sa,sc,hse,_⟩:=hsv'
       generalize ks[j].length=sn at hse
       subst hse
       have k0:=HR2.out.1.cellv k0
       have HHA:=Hid.mk' (has_any _ ks[j] u wr (HT.out.grown HR2.out.1) (hsv.grown HR2.out.1))
       obtain ⟨b,hb⟩:∃ b,hasB ks[j] u=b:=⟨_,rfl⟩
       have HB:=Hid.mk' hb
       have HHB:Hid (Calls Tryz.prog 45 #[.slice sa sn sc,.int .i64 u] wr fun e w'=>e = .returned (.bool b)∧Grown wr w'):=by
        rw [←hb];exact HHA.out
       clear hsv hkr hb HHA
       cases b with
       | true=>
        go_wp2_with (go_at_call 45;refine HHB.out.mono ?_;rintro e w' ⟨rfl,hg⟩)
        go_ret
        have:kyd rs u=true:=any_at hir (by show kyK _ _=true;rw [HKS.out.1];exact any_at hjk HB.out)
        exact ⟨by rw [this];rfl,HR2.out.1.trans hg⟩
       | false=>
        go_wp2_with (go_at_call 45;refine HHB.out.mono ?_;rintro e w' ⟨rfl,hg⟩)
        go_roundg (kn - (j+1))
        case measure=>omega
        case rel=>exact ⟨j+1,rfl,by omega,Nat.le_refl _,HR2.out.1.trans hg,any_take_false HR2.out.2 hjk HB.out⟩
     · have hjlI:¬ (j:Int)<(kn:Int):=by omega
       go_wp2
       go_roundg (vn - (i+1))
       case measure=>omega
       case rel=>
        refine ⟨i+1,rfl,by omega,Nat.le_refl _,HR2.out.1,any_take_false HR.out.2 hir ?_⟩
        have:=HR2.out.2
        rw [List.take_of_length_le (by rw [HKS.out.2];omega)] at this
        show kyK _ _=false
        rw [HKS.out.1]
        exact this
  · have hilI:¬ (i:Int)<(vn:Int):=by omega
    go_wp2
    go_ret
    have:=HR.out.2
    rw [List.take_of_length_le (by rw [HN.out];omega)] at this
    exact ⟨by rw [kyd_eq,this];rfl,HR.out.1⟩
theorem us_ints (l:List (Nat × Nat)):us l=ints (intsU l):=by simp [us,ints,intsU]
theorem cut_own (s:ByteArray) (w:World) (hs:s.size≤4398046511104):Calls Tryz.prog 20 #[.string s] w fun e w'=>∃ a c,e = .returned (.slice a (units s).length c)∧IR w' (.slice a (units s).length c) (intsU (units s))∧Below w.heap.size w w':=(cut_any s w hs).mono (by
 rintro e w' ⟨v,rfl,h1,h2⟩
 have ho:OwnI w' w.heap.size v (intsU (units s)):=by
  unfold OwnI
  rw [intsU_length,←us_ints]
  exact h1
 obtain ⟨a,c,hv⟩:=ho.sl
 rw [intsU_length] at hv
 subst hv
 exact ⟨a,c,rfl,ho.ir,h2⟩)
theorem ext_list (s:ByteArray) (a b:Nat):(s.extract a b).data.toList=(s.data.toList.drop a).take (b - a):=by
 rw [ByteArray.data_extract,Array.toList_extract];first | done | simp [List.extract]
theorem rAt_pos {l:List Bk} (h:Join l) {j:Nat} (hj:j≤l.length):0≤rAt l j:=by
 induction j with
 | zero=>exact Int.le_refl _
 | succ j ih=>have h1:=(h.at' (j:=j) (by omega)).2.1;have:=ih (by omega);omega
structure BF (s t:ByteArray) (rs:List Rl) (bl:List Bk) (i p q r0 r1:Nat):Prop where
 b:bl[i]? = some ((p:Int),(q:Int),(r0:Int),(r1:Int))
 es:sAt bl i=p
 er:rAt bl i=r0
 es':sAt bl (i+1)=q
 er':rAt bl (i+1)=r1
 pq:p<q
 rr:r0≤r1
 qs:q≤s.size
 rt:r1≤t.size
 bd:borderU s q=true
 un:∃ us',units (s.extract p q)=(0,uAt s p)::us'
 fs:(firstU (s.extract p s.size)).2=uw s p
 ky:kyd rs (uAt s p)=true∨(uw s p=q - p∧s.extract p q=t.extract r0 r1)
theorem bf_of {s:ByteArray} {rs:List Rl} {d:List Int} {c:Nat} {bl:List Bk} (h:GI s rs d [] c bl) {t:ByteArray} (ht:joinB d=some t.data.toList) {i:Nat} (hi:i<bl.length):∃ p q r0 r1,BF s t rs bl i p q r0 r1:=by
 have hat:=h.jn.at' hi
 obtain ⟨p,q,h1,h2,h3,h4,h5,h6,h7,h8⟩:=h.ok _ (List.getElem_mem hi)
 obtain ⟨x,hx,hxl⟩:=joinB_all h.un.1
 have htl:(t.size:Int)=wds d:=by
  rw [ht] at hx
  injection hx with hx
  rw [←hxl,←hx,Array.length_toList];rfl
 have hr0:0≤rAt bl i:=rAt_pos h.jn (by omega)
 have hr1:rAt bl (i+1)=bl[i].2.2.2:=rAt_succ hi
 have hs1:sAt bl (i+1)=bl[i].2.1:=sAt_succ hi
 obtain ⟨r0,e0⟩:∃ r:Nat,bl[i].2.2.1=r:=⟨(bl[i].2.2.1).toNat,by omega⟩
 obtain ⟨r1,e1⟩:∃ r:Nat,bl[i].2.2.2=r:=⟨(bl[i].2.2.2).toNat,by omega⟩
 have hup:=uw_pos s p
 have hsz:(s.extract p q).size=q - p:=by rw [ByteArray.size_extract];omega
 have hu0:0<(s.extract p q).size:=by omega
 have hin:=uw_in (s.extract p q) 0 hu0
 have hsm:=same_at (s:=s) (t:=s.extract p q) (p:=p) (r:=0) (fun k hk1 hk2=>by rw [Nat.zero_add];exact get_ext s p q k (by rw [hsz] at hk2;omega) h5) h3 hu0 (by omega) (by omega)
 have hsz2:(s.extract p s.size).size=s.size - p:=by rw [ByteArray.size_extract];omega
 have hf0:0<(s.extract p s.size).size:=by omega
 refine ⟨p,q,r0,r1,?_,by rw [←hat.2.2.1];exact h1,by rw [←hat.2.2.2];exact e0,by rw [hs1];exact h2,by rw [hr1];exact e1,by omega,by omega,h5,by omega,?_,?_,?_,?_⟩
 · rw [List.getElem?_eq_getElem hi,←h1,←h2,←e0,←e1]
 · exact (border_iff s q h5).2 h6
 · refine ⟨unitsN (s.extract p q) (s.extract p q).size (0+uw (s.extract p q) 0),?_⟩
   unfold units
   rw [units_next _ 0 hu0,hsm.2]
 · have hfu:=firstU_of (s:=s.extract p s.size) (x:=(0,uAt (s.extract p s.size) 0)) ⟨unitsN (s.extract p s.size) (s.extract p s.size).size (0+uw (s.extract p s.size) 0),by
    unfold units
    rw [units_next _ 0 hf0]
    rfl⟩
   rw [hfu]
   simp only
   rw [uAt_tail s p h3,wd_uAt]
 · refine h8.imp id ?_
   rintro ⟨e2,d0,hd0,e3,e4⟩
   refine ⟨by omega,?_⟩
   obtain ⟨z,hz⟩:=hd0
   have hu:AllU (d0++[(uAt s p:Int)]++z):=by rw [hz];exact h.un.1
   obtain ⟨x0,j0,l0⟩:=joinB_all (a:=d0) fun v hv=>hu v (by simp [hv])
   obtain ⟨xz,jz,_⟩:=joinB_all (a:=z) fun v hv=>hu v (by simp [hv])
   have hw:wd (uAt s p:Int)≠0:=hu _ (by simp)
   have j1:joinB [(uAt s p:Int)]=some (put (uAt s p:Int)).data.toList:=by rw [joinB_step hw];simp [joinB]
   have hj:=joinB_app (joinB_app j0 j1) jz
   rw [hz,ht] at hj
   injection hj with hj
   have hl0:x0.length=r0:=by omega
   apply ByteArray.ext
   apply Array.toList_inj.1
   have hlen:((s.data.toList.drop p).take (uw s p)).length=uw s p:=by
    rw [List.length_take,List.length_drop]
    have:s.data.toList.length=s.size:=by rw [Array.length_toList];rfl
    omega
   have e5:t.data.toList.drop r0=(s.data.toList.drop p).take (uw s p)++xz:=by rw [hj,put_uAt s p h3,List.append_assoc,←hl0,List.drop_left]
   have e6:q - p=uw s p:=by omega
   have e7:r1 - r0=uw s p:=by omega
   rw [ext_list,ext_list,e5,e6,e7,List.take_append_of_le_length (by omega),List.take_take,Nat.min_self]
theorem run_text {rs:List Rl} {s:ByteArray} (hE:mayE rs s=0) {d:List Int} (hd:d=(endOf rs s).2) (hu:AllU d):joinB d=some (runT rs s).data.toList∧((runT rs s).size:Int)=wds d:=by
 obtain ⟨x,h1,h2⟩:=joinB_all hu
 have e:runT rs s=⟨x.toArray⟩:=by
  unfold runT
  rw [if_pos hE,←hd]
  unfold joinS
  rw [h1]
 rw [e]
 exact ⟨by rw [h1],by rw [←h2];simp [ByteArray.size]⟩
def AI (W:World) (bl:List Bk) (ab i:Nat) (wr:World):Prop:=(∃ x0 x2,wr.heap[ab]? = some (.cells #[.int .i64 x0,.int .i64 (sAt bl i),.int .i64 x2,.int .i64 (rAt bl i)] 44 (0,0)))∧Below W.heap.size W wr
theorem AI.next {W:World} {bl:List Bk} {i:Nat} {wr:World} {x0 x1 x2 x3 p q r0 r1:Int} (hab:wr.heap[W.heap.size]? = some (.cells #[.int .i64 x0,.int .i64 x1,.int .i64 x2,.int .i64 x3] 44 (0,0))) (hb:Below W.heap.size W wr) (h1:sAt bl (i+1)=q) (h2:rAt bl (i+1)=r1):AI W bl W.heap.size (i+1) ((((wr.setCell ⟨W.heap.size,0,none⟩ (.int .i64 p)).setCell ⟨W.heap.size,1,none⟩ (.int .i64 q)).setCell ⟨W.heap.size,2,none⟩ (.int .i64 r0)).setCell ⟨W.heap.size,3,none⟩ (.int .i64 r1)):=by
 refine ⟨⟨p,r0,?_⟩,?_⟩
 · rw [set_heap (set_heap (set_heap (set_heap hab))),h1,h2];rfl
 · have hf:Fr wr ((((wr.setCell ⟨W.heap.size,0,none⟩ (.int .i64 p)).setCell ⟨W.heap.size,1,none⟩ (.int .i64 q)).setCell ⟨W.heap.size,2,none⟩ (.int .i64 r0)).setCell ⟨W.heap.size,3,none⟩ (.int .i64 r1)) (fun k=>k=W.heap.size):=(((fr_set _ _ _ _).trans (fr_set _ _ _ _) fun _ _ e=>e).trans (fr_set _ _ _ _) fun _ _ e=>e).trans (fr_set _ _ _ _) fun _ _ e=>e
   exact hb.trans (hf.below (fun k e=>by have e:k=W.heap.size:=e;omega) hb.size)
set_option maxHeartbeats 16000000 in
theorem gaps_law (v:Value) (rs:List Rl) (s:ByteArray) (w:World) (hT:Tab w) (hz:0<w.heap.size) (hP:PsR w v rs):Calls Tryz.prog 6 #[.agg #[v],.string s] w fun e w'=>e = .returned (.bool true)∧Below w.heap.size w w':=by
 obtain ⟨va,vc,hv,_⟩:=id hP
 obtain ⟨vn,hvn⟩:∃ n,rs.length=n:=⟨_,rfl⟩
 rw [hvn] at hv
 subst hv
 obtain ⟨W0,hW0⟩:∃ W0,W0=w.alloc (.cells #[.slice va vn vc] 24):=⟨_,rfl⟩
 have hg0:Grown w W0:=by rw [hW0];exact (Grown.refl w).alloc _
 have hb0:W0.heap[w.heap.size]? = some (.cells #[.slice va vn vc] 24 (0,0)):=by rw [hW0];exact heap_alloc_new w _
 have HP:Hid (∀ W,Below W0.heap.size W0 W→Tab W∧0<W.heap.size∧PsR W (.slice va vn vc) rs∧Below w.heap.size w W):=fun W hb=>by
  have hb':=hg0.below.trans (hb.mono hg0.size)
  exact ⟨hT.below hb' hz,Nat.lt_of_lt_of_le hz hb'.size,hP.below hb' (Nat.le_refl _),hb'⟩
 have H7:=Hid.mk' (shown9 W0 (hT.grown hg0) (Nat.lt_of_lt_of_le hz hg0.size))
 have z0:W0.cell? ⟨w.heap.size,0,none⟩=some (.slice va vn vc):=by rw [cell_of hb0];rfl
 clear hT hz hP hg0 hb0 hvn
 have hw0:=hW0.symm
 clear hW0
 go_enter Tryz.func6,Tryz.ntmps6
 go_wp2_with fail
 try rw [hw0]
 refine H7.out.mono ?_
 rintro e W1 ⟨rfl,hb1⟩
 have z1:=cell_below z0 hb1 (Nat.le_refl _)
 have HB1:=Hid.mk' hb1
 clear hb1 H7 z0 hw0
 go_wp2_with fail
 refine (blocks_any _ rs s W1 (HP.out W1 HB1.out).1 (HP.out W1 HB1.out).2.2.1).mono ?_
 rintro e W2 ⟨hb2,hq⟩
 have z2:=cell_below z1 hb2 (Nat.le_refl _)
 have HB2:Hid (Below W0.heap.size W0 W2):=HB1.out.trans (hb2.mono HB1.out.size)
 clear hb2 z1
 rcases hq with ⟨hne,rfl⟩ | ⟨he,lv,bl,c,rfl,hO,hTr⟩
 · -- refused
   have hbn:(mayE rs s == 0)=false:=by simpa using hne
   have hbn2:(mayE rs s != 0)=true:=by simpa using hne
   have hd:decide (mayE rs s=0)=false:=by simpa using hne
   have HR:=Hid.mk' (run_any _ rs s W2 (HP.out W2 HB2.out).1 (HP.out W2 HB2.out).2.1 (HP.out W2 HB2.out).2.2.1)
   generalize mayE rs s=m at hne hbn hbn2 hd HR ⊢
   clear HB1
   go_wp2_with (go_at_call 18;refine HR.out.mono ?_;rintro e W3 ⟨rfl,hb3⟩;have HB3:=Hid.mk' hb3;clear hb3)
   go_ret
   have hbb:=HB2.out.trans (HB3.out.mono HB2.out.size)
   exact ⟨rfl,(HP.out _ hbb).2.2.2⟩
 · obtain ⟨st,_,hs16,hFin,_,hck,_⟩:=may_ok he
   have hGI:=hTr.gi hck
   obtain ⟨hjt,htz⟩:=run_text he rfl hGI.un.1
   have hfin:=hGI.fin
   obtain ⟨t,hte⟩:∃ t,runT rs s=t:=⟨_,rfl⟩
   have HR:=Hid.mk' (run_any _ rs s W2 (HP.out W2 HB2.out).1 (HP.out W2 HB2.out).2.1 (HP.out W2 HB2.out).2.2.1)
   rw [he,hte] at HR
   rw [hte] at hjt htz
   have HBF:Hid (∀ i,i<bl.length→∃ p q r0 r1,BF s t rs bl i p q r0 r1):=fun i hi=>bf_of hGI hjt hi
   have HFIN:Hid (sAt bl bl.length=(s.size:Int)∧rAt bl bl.length=(t.size:Int)):=⟨hfin.1,hfin.2.trans htz.symm⟩
   obtain ⟨la,lc,hlv⟩:=OwnK.form hO
   obtain ⟨ln,hln⟩:∃ n,bl.length=n:=⟨_,rfl⟩
   rw [hln] at hlv
   subst hlv
   have HKR:=Hid.mk' hO.kr
   have HRS:Hid (rs.length≤1000000∧∀ r∈rs,r.key.length≤1000000):=⟨by have:=hFin.n;omega,fun r hr=>by have:=(chk_ok (hck r hr)).k8;omega⟩
   have HLN:Hid (bl.length=ln):=hln
   have hlnb:ln≤1000000:=by
    -- each block takes a byte at least
    have h1:∀ j,j≤bl.length→(j:Int)≤sAt bl j:=fun j=>by
     induction j with
     | zero=>intro _;exact Int.le_refl _
     | succ j ih=>intro hj;have h2:=(hGI.jn.at' (j:=j) (by omega)).1;have:=ih (by omega);omega
    have h2:=h1 bl.length (Nat.le_refl _)
    rw [hfin.1] at h2
    omega
   have hlnI:(ln:Int)≤1000000:=by omega
   clear hTr hGI hjt htz hfin hO hFin hck hte hln HB1
   go_wp2_with (go_at_call 18;refine HR.out.mono ?_;rintro e W3 ⟨rfl,hb3⟩;have z3:=cell_below z2 hb3 (Nat.le_refl _);have HB3:Hid (Below W0.heap.size W0 W3∧KR W3 (.slice la ln lc) bl):=⟨HB2.out.trans (hb3.mono HB2.out.size),HKR.out.below hb3 (Nat.le_refl _)⟩;clear hb3)
   go_loopg [42] ln (fun q s42 wr=>∃ i:Nat,s42 = .int .i64 (i:Int)∧i≤ln∧ln - i≤q∧Hid (AI W3 bl W3.heap.size i wr))
   case atStart=>exact ⟨0,rfl,by omega,by omega,⟨0,0,heap_alloc_new _ _⟩,((Grown.refl W3).alloc _).below⟩
   case round=>
    obtain ⟨i,rfl,hi1,hi2,HA⟩:=hrel
    have hiI:(i:Int)≤1000000:=by omega
    obtain ⟨wo,hwo⟩:∃ x,x=wr:=⟨_,rfl⟩
    subst hwo
    by_cases hil:i<ln
    · have hilI:(i:Int)<(ln:Int):=by omega
      have hib:i<bl.length:=by rw [HLN.out];exact hil
      obtain ⟨p,q,r0,r1,hBF⟩:=HBF.out i hib
      obtain ⟨g,o,hae,k0,k1,k2,k3⟩:=kr_cell HB3.out.2 hib
      subst hae
      have hbe:bl[i]=((p:Int),(q:Int),(r0:Int),(r1:Int)):=by have:=hBF.b;rw [List.getElem?_eq_getElem hib] at this;injection this
      rw [hbe] at k0 k1 k2 k3
      simp only at k0 k1 k2 k3
      have k0:=cell_below k0 HA.out.2 (Nat.le_refl _)
      have k1:=cell_below k1 HA.out.2 (Nat.le_refl _)
      have k2:=cell_below k2 HA.out.2 (Nat.le_refl _)
      have k3:=cell_below k3 HA.out.2 (Nat.le_refl _)
      obtain ⟨⟨x0,x2,hab⟩,hbe3⟩:=id HA.out
      rw [hBF.es,hBF.er] at hab
      have HAB:=Hid.mk' hab
      obtain ⟨Wa,hWa⟩:∃ Wa,Wa=wo.alloc (.cells #[.int .i64 (p:Int),.int .i64 (q:Int),.int .i64 (r0:Int),.int .i64 (r1:Int)] 44):=⟨_,rfl⟩
      have hga:Grown wo Wa:=by rw [hWa];exact (Grown.refl wo).alloc _
      have hcb:Wa.heap[wo.heap.size]? = some (.cells #[.int .i64 (p:Int),.int .i64 (q:Int),.int .i64 (r0:Int),.int .i64 (r1:Int)] 44 (0,0)):=by rw [hWa];exact heap_alloc_new wo _
      have hab:Wa.heap[W3.heap.size]? = some (.cells #[.int .i64 x0,.int .i64 (p:Int),.int .i64 x2,.int .i64 (r0:Int)] 44 (0,0)):=(hga.below.block _ (blk_lt hab)).trans hab
      have a0:Wa.cell? ⟨W3.heap.size,0,none⟩=some (.int .i64 x0):=(by rw [cell_of hab];rfl)
      have a1:Wa.cell? ⟨W3.heap.size,1,none⟩=some (.int .i64 (p:Int)):=(by rw [cell_of hab];rfl)
      have a2:Wa.cell? ⟨W3.heap.size,2,none⟩=some (.int .i64 x2):=(by rw [cell_of hab];rfl)
      have a3:Wa.cell? ⟨W3.heap.size,3,none⟩=some (.int .i64 (r0:Int)):=(by rw [cell_of hab];rfl)
      have b0:Wa.cell? ⟨wo.heap.size,0,none⟩=some (.int .i64 (p:Int)):=(by rw [cell_of hcb];rfl)
      have b1:Wa.cell? ⟨wo.heap.size,1,none⟩=some (.int .i64 (q:Int)):=(by rw [cell_of hcb];rfl)
      have b2:Wa.cell? ⟨wo.heap.size,2,none⟩=some (.int .i64 (r0:Int)):=(by rw [cell_of hcb];rfl)
      have b3:Wa.cell? ⟨wo.heap.size,3,none⟩=some (.int .i64 (r1:Int)):=(by rw [cell_of hcb];rfl)
      have HBL:Hid (Wa.heap[W3.heap.size]? = some (.cells #[.int .i64 x0,.int .i64 (p:Int),.int .i64 x2,.int .i64 (r0:Int)] 44 (0,0))∧Wa.heap[wo.heap.size]? = some (.cells #[.int .i64 (p:Int),.int .i64 (q:Int),.int .i64 (r0:Int),.int .i64 (r1:Int)] 44 (0,0))∧Below W3.heap.size W3 Wa):=⟨hab,hcb,hbe3.trans (hga.below.mono hbe3.size)⟩
      have n1:¬ (q:Int)≤(p:Int):=by have:=hBF.pq;omega
      have n2:¬ (r1:Int)<(r0:Int):=by have:=hBF.rr;omega
      have n3:¬ (s.size:Int)<(q:Int):=by have:=hBF.qs;omega
      have n4:¬ (t.size:Int)<(r1:Int):=by have:=hBF.rt;omega
      have hpq:(p:Int)≤(q:Int):=by have:=hBF.pq;omega
      have hqs:(q:Int)≤(s.size:Int):=by have:=hBF.qs;omega
      have hps:(p:Int)≤(s.size:Int):=by omega
      have hrr:(r0:Int)≤(r1:Int):=by have:=hBF.rr;omega
      have hrt:(r1:Int)≤(t.size:Int):=by have:=hBF.rt;omega
      have H19:Hid (Calls Tryz.prog 19 #[.string s,.int .i64 (q:Int)] Wa fun e w'=>e = .returned (.bool true)∧Below Wa.heap.size Wa w'):=by
       have:=border_in s q Wa (by omega) hBF.qs
       rw [hBF.bd] at this
       exact this
      have HBf:=Hid.mk' hBF
      obtain ⟨sx,hsx⟩:∃ sx,s.extract p q=sx:=⟨_,rfl⟩
      have hsxz:sx.size≤16384:=by rw [←hsx,ByteArray.size_extract];omega
      have H20:Hid (∀ W,Calls Tryz.prog 20 #[.string sx] W fun e w'=>∃ a c,e = .returned (.slice a (units sx).length c)∧IR w' (.slice a (units sx).length c) (intsU (units sx))∧Below W.heap.size W w'):=fun W=>cut_own sx W (by omega)
      have HSX:=Hid.mk' hsx
      have hza:=cell_below z3 hbe3 (Nat.le_refl _)
      have hzb:=hga.cellv hza
      have hwa:=hWa.symm
      clear hWa hab hcb hbe hBF hbe3 hga hza hsx
      go_wp2_with fail
      refine H19.out.mono ?_
      rintro e Wb ⟨rfl,hbb⟩
      have hab:=(hbb.block _ (blk_lt HBL.out.1)).trans HBL.out.1
      have hcb:=(hbb.block _ (blk_lt HBL.out.2.1)).trans HBL.out.2.1
      have HBLb:Hid (Wb.heap[W3.heap.size]? = some (.cells #[.int .i64 x0,.int .i64 (p:Int),.int .i64 x2,.int .i64 (r0:Int)] 44 (0,0))∧Wb.heap[wo.heap.size]? = some (.cells #[.int .i64 (p:Int),.int .i64 (q:Int),.int .i64 (r0:Int),.int .i64 (r1:Int)] 44 (0,0))∧Below W3.heap.size W3 Wb):=⟨hab,hcb,HBL.out.2.2.trans (hbb.mono HBL.out.2.2.size)⟩
      have hzc:=cell_below hzb hbb (Nat.le_refl _)
      clear a0 a1 a2 a3 b0 b1 b2 b3 H19 hwa hzb
      have a0:Wb.cell? ⟨W3.heap.size,0,none⟩=some (.int .i64 x0):=(by rw [cell_of hab];rfl)
      have a1:Wb.cell? ⟨W3.heap.size,1,none⟩=some (.int .i64 (p:Int)):=(by rw [cell_of hab];rfl)
      have a2:Wb.cell? ⟨W3.heap.size,2,none⟩=some (.int .i64 x2):=(by rw [cell_of hab];rfl)
      have a3:Wb.cell? ⟨W3.heap.size,3,none⟩=some (.int .i64 (r0:Int)):=(by rw [cell_of hab];rfl)
      have b0:Wb.cell? ⟨wo.heap.size,0,none⟩=some (.int .i64 (p:Int)):=(by rw [cell_of hcb];rfl)
      have b1:Wb.cell? ⟨wo.heap.size,1,none⟩=some (.int .i64 (q:Int)):=(by rw [cell_of hcb];rfl)
      have b2:Wb.cell? ⟨wo.heap.size,2,none⟩=some (.int .i64 (r0:Int)):=(by rw [cell_of hcb];rfl)
      have b3:Wb.cell? ⟨wo.heap.size,3,none⟩=some (.int .i64 (r1:Int)):=(by rw [cell_of hcb];rfl)
      clear hab hcb hbb k0 k1 k2 k3
      go_wp2_with fail
      rw [HSX.out]
      refine (H20.out Wb).mono ?_
      rintro e Wc ⟨ua,uc,rfl,hir,hbc⟩
      obtain ⟨m,hm⟩:∃ m,(units sx).length=m:=⟨_,rfl⟩
      rw [hm] at hir ⊢
      have hmb:m≤16384:=by rw [←hm];have:=units_len sx;omega
      have hmI:(m:Int)≤16384:=by omega
      have hab:=(hbc.block _ (blk_lt HBLb.out.1)).trans HBLb.out.1
      have hcb:=(hbc.block _ (blk_lt HBLb.out.2.1)).trans HBLb.out.2.1
      have HBLc:Hid ((Wc.heap[W3.heap.size]? = some (.cells #[.int .i64 x0,.int .i64 (p:Int),.int .i64 x2,.int .i64 (r0:Int)] 44 (0,0))∧Wc.heap[wo.heap.size]? = some (.cells #[.int .i64 (p:Int),.int .i64 (q:Int),.int .i64 (r0:Int),.int .i64 (r1:Int)] 44 (0,0))∧Below W3.heap.size W3 Wc)∧IR Wc (.slice ua m uc) (intsU (units sx))∧(intsU (units sx)).length=m):=⟨⟨hab,hcb,HBLb.out.2.2.trans (hbc.mono HBLb.out.2.2.size)⟩,hir,by rw [intsU_length];exact hm⟩
      have hzd:=cell_below hzc hbc (Nat.le_refl _)
      clear a0 a1 a2 a3 b0 b1 b2 b3 hab hcb hbc hir hm hzc H20
      go_wp2_with fail
      go_loopg [12,101] m (fun qq s12 s101 wr=>∃ (k:Nat) (qb:Bool),s12 = .bool qb∧s101 = .int .i64 (k:Int)∧k≤m∧m - k≤qq∧Hid (Below Wc.heap.size Wc wr∧qb = !((intsU (units sx)).take k).any (kyd rs)))
      case atStart=>exact ⟨0,true,rfl,rfl,by omega,by omega,Below.refl _ _,by simp⟩
      case round=>
       obtain ⟨k,qb,rfl,rfl,hk1,hk2,HR2⟩:=hrel
       have hkI:(k:Int)≤16384:=by omega
       by_cases hkm:k<m
       · have hkmI:(k:Int)<(m:Int):=by omega
         obtain ⟨ug,uo,hua,huc⟩:=ir_cell HBLc.out.2.1 (j:=k) (by rw [HBLc.out.2.2];exact hkm)
         subst hua
         have huc:=cell_below huc HR2.out.1 (Nat.le_refl _)
         have hze:=cell_below hzd HR2.out.1 (Nat.le_refl _)
         obtain ⟨u,hu⟩:∃ u,(intsU (units sx)).getD k 0=u:=⟨_,rfl⟩
         rw [hu] at huc
         have HU:Hid ((intsU (units sx)).take (k+1)=(intsU (units sx)).take k++[u]):=by
          have hkl:k<(intsU (units sx)).length:=by rw [HBLc.out.2.2];exact hkm
          show _=_
          rw [List.take_succ_eq_append_getElem hkl,←hu,getD_lt hkl]
         obtain ⟨kb,hkb⟩:∃ b,kyd rs u=b:=⟨_,rfl⟩
         have HKB:=Hid.mk' hkb
         have hbw:=HB3.out.1.trans ((HBLc.out.1.2.2.trans (HR2.out.1.mono HBLc.out.1.2.2.size)).mono HB3.out.1.size)
         have H21:Hid (Calls Tryz.prog 21 #[.agg #[.slice va vn vc],.int .i64 u] wr fun e w'=>e = .returned (.bool kb)∧Grown wr w'):=by
          rw [←hkb];exact keyed_any _ rs u wr (HP.out _ hbw).1 (HP.out _ hbw).2.2.1 HRS.out.1 HRS.out.2
         clear hu hkb hbw
         cases qb with
         | true=>
          go_wp2_with (go_at_call 21;refine H21.out.mono ?_;rintro e wk ⟨rfl,hgk⟩)
          go_roundg (m - (k+1))
          case measure=>omega
          case rel=>exact ⟨k+1,!kb,rfl,rfl,by omega,Nat.le_refl _,HR2.out.1.trans (hgk.below.mono HR2.out.1.size),by
           have h0:((intsU (units sx)).take k).any (kyd rs)=false:=by have:=HR2.out.2;simpa using this
           rw [HU.out,List.any_append,h0]
           simp [HKB.out]⟩
         | false=>
          go_wp2
          go_roundg (m - (k+1))
          case measure=>omega
          case rel=>exact ⟨k+1,false,rfl,rfl,by omega,Nat.le_refl _,HR2.out.1,by
           have:=HR2.out.2
           rw [HU.out,List.any_append]
           simp only [Bool.not_or,←this,Bool.false_and]⟩
       · have hkmI:¬ (k:Int)<(m:Int):=by omega
         obtain rfl:k=m:=by omega
         have hab:=(HR2.out.1.block _ (blk_lt HBLc.out.1.1)).trans HBLc.out.1.1
         have hcb:=(HR2.out.1.block _ (blk_lt HBLc.out.1.2.1)).trans HBLc.out.1.2.1
         have hb3:=HBLc.out.1.2.2.trans (HR2.out.1.mono HBLc.out.1.2.2.size)
         have a0:wr.cell? ⟨W3.heap.size,0,none⟩=some (.int .i64 x0):=(by rw [cell_of hab];rfl)
         have a1:wr.cell? ⟨W3.heap.size,1,none⟩=some (.int .i64 (p:Int)):=(by rw [cell_of hab];rfl)
         have a2:wr.cell? ⟨W3.heap.size,2,none⟩=some (.int .i64 x2):=(by rw [cell_of hab];rfl)
         have a3:wr.cell? ⟨W3.heap.size,3,none⟩=some (.int .i64 (r0:Int)):=(by rw [cell_of hab];rfl)
         have b0:wr.cell? ⟨wo.heap.size,0,none⟩=some (.int .i64 (p:Int)):=(by rw [cell_of hcb];rfl)
         have b1:wr.cell? ⟨wo.heap.size,1,none⟩=some (.int .i64 (q:Int)):=(by rw [cell_of hcb];rfl)
         have b2:wr.cell? ⟨wo.heap.size,2,none⟩=some (.int .i64 (r0:Int)):=(by rw [cell_of hcb];rfl)
         have b3:wr.cell? ⟨wo.heap.size,3,none⟩=some (.int .i64 (r1:Int)):=(by rw [cell_of hcb];rfl)
         have f0:∀ j,wr.frozen? ⟨W3.heap.size,j,none⟩=false:=(fun j=>free_of hab)
         cases qb with
         | false=>
          have HN:Hid (∀ x,AI W3 bl W3.heap.size (i+1) ((((wr.setCell ⟨W3.heap.size,0,none⟩ (.int .i64 (p:Int))).setCell ⟨W3.heap.size,1,none⟩ (.int .i64 (q:Int))).setCell ⟨W3.heap.size,2,none⟩ (.int .i64 x)).setCell ⟨W3.heap.size,3,none⟩ (.int .i64 (r1:Int)))):=fun x=>AI.next hab hb3 HBf.out.es' HBf.out.er'
          clear hab hcb hb3 hzd
          go_wp2
          go_roundg (ln - (i+1))
          case measure=>omega
          case rel=>exact ⟨i+1,rfl,by omega,Nat.le_refl _,HN.out _⟩
         | true=>
          -- nothing of it is in a key
          have HQ:Hid (uw s p=q - p∧s.extract p q=t.extract r0 r1):=by
           rcases HBf.out.ky with e | e
           · exfalso
             have h1:=HR2.out.2
             rw [List.take_of_length_le (by rw [HBLc.out.2.2];exact Nat.le_refl _)] at h1
             obtain ⟨us',hus⟩:=HBf.out.un
             rw [HSX.out] at hus
             rw [hus] at h1
             simp [intsU,e] at h1
           · exact e
          have HBW:Hid (wr.heap[W3.heap.size]? = some (.cells #[.int .i64 x0,.int .i64 (p:Int),.int .i64 x2,.int .i64 (r0:Int)] 44 (0,0))∧wr.heap[wo.heap.size]? = some (.cells #[.int .i64 (p:Int),.int .i64 (q:Int),.int .i64 (r0:Int),.int .i64 (r1:Int)] 44 (0,0))∧Below W3.heap.size W3 wr):=⟨hab,hcb,hb3⟩
          have H22:Hid (Calls Tryz.prog 22 #[.string (s.extract p s.size)] wr fun e w'=>∃ fu,e = .returned (.tuple #[.int .i64 fu,.int .i64 ((q:Int) - (p:Int))])∧Below wr.heap.size wr w'):=(first_any (s.extract p s.size) wr (by rw [ByteArray.size_extract];unfold maxLen;omega)).mono (by
           rintro e w' ⟨rfl,hb⟩
           refine ⟨(firstU (s.extract p s.size)).1,?_,hb⟩
           rw [HBf.out.fs,HQ.out.1]
           have:=HBf.out.pq
           rw [show ((q - p:Nat):Int)=(q:Int) - (p:Int) by omega])
          clear hab hcb hb3 hzd
          go_wp2_with fail
          refine H22.out.mono ?_
          rintro e Wd ⟨fu,rfl,hbd⟩
          have hab:=(hbd.block _ (blk_lt HBW.out.1)).trans HBW.out.1
          have hcb:=(hbd.block _ (blk_lt HBW.out.2.1)).trans HBW.out.2.1
          have hb3:=HBW.out.2.2.trans (hbd.mono HBW.out.2.2.size)
          clear a0 a1 a2 a3 b0 b1 b2 b3 f0 H22
          have a0:Wd.cell? ⟨W3.heap.size,0,none⟩=some (.int .i64 x0):=(by rw [cell_of hab];rfl)
          have a1:Wd.cell? ⟨W3.heap.size,1,none⟩=some (.int .i64 (p:Int)):=(by rw [cell_of hab];rfl)
          have a2:Wd.cell? ⟨W3.heap.size,2,none⟩=some (.int .i64 x2):=(by rw [cell_of hab];rfl)
          have a3:Wd.cell? ⟨W3.heap.size,3,none⟩=some (.int .i64 (r0:Int)):=(by rw [cell_of hab];rfl)
          have b0:Wd.cell? ⟨wo.heap.size,0,none⟩=some (.int .i64 (p:Int)):=(by rw [cell_of hcb];rfl)
          have b1:Wd.cell? ⟨wo.heap.size,1,none⟩=some (.int .i64 (q:Int)):=(by rw [cell_of hcb];rfl)
          have b2:Wd.cell? ⟨wo.heap.size,2,none⟩=some (.int .i64 (r0:Int)):=(by rw [cell_of hcb];rfl)
          have b3:Wd.cell? ⟨wo.heap.size,3,none⟩=some (.int .i64 (r1:Int)):=(by rw [cell_of hcb];rfl)
          have f0:∀ j,Wd.frozen? ⟨W3.heap.size,j,none⟩=false:=(fun j=>free_of hab)
          have hs1:s.extract p q=sx:=HSX.out
          have ht1:t.extract r0 r1=sx:=HQ.out.2.symm.trans HSX.out
          have HN:Hid (∀ x k,AI W3 bl W3.heap.size (i+1) (((((Wd.drewN k).setCell ⟨W3.heap.size,0,none⟩ (.int .i64 (p:Int))).setCell ⟨W3.heap.size,1,none⟩ (.int .i64 (q:Int))).setCell ⟨W3.heap.size,2,none⟩ (.int .i64 x)).setCell ⟨W3.heap.size,3,none⟩ (.int .i64 (r1:Int)))):=fun x k=>AI.next (wr:=Wd.drewN k) hab (hb3.trans (((Grown.refl Wd).drewN k).below.mono hb3.size)) HBf.out.es' HBf.out.er'
          clear hab hcb hb3 hbd
          go_wp2
          go_big_quiet (fail)
          go_wp2
          go_roundg (ln - (i+1))
          case measure=>omega
          case rel=>exact ⟨i+1,rfl,by omega,Nat.le_refl _,HN.out _ _⟩
    · have hilI:¬ (i:Int)<(ln:Int):=by omega
      obtain rfl:i=ln:=by omega
      obtain ⟨⟨x0,x2,hab⟩,hbe3⟩:=id HA.out
      have e1:=HFIN.out.1
      have e2:=HFIN.out.2
      rw [HLN.out] at e1 e2
      rw [e1,e2] at hab
      have a1:wo.cell? ⟨W3.heap.size,1,none⟩=some (.int .i64 (s.size:Int)):=by rw [cell_of hab];rfl
      have a3:wo.cell? ⟨W3.heap.size,3,none⟩=some (.int .i64 (t.size:Int)):=by rw [cell_of hab];rfl
      have HBE:Hid (Below w.heap.size w wo):=(HP.out _ (HB3.out.1.trans (hbe3.mono HB3.out.1.size))).2.2.2
      clear hab hbe3 e1 e2
      go_wp2
      go_ret
      exact ⟨rfl,HBE.out⟩
end Go.Proofs
