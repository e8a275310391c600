/-
  Several texts in one (Tnr Mgmr).
-/
import Derived.RangeFuncNested
import Derived.RangeFuncBound
import Derived.RangeFuncCalls
import Derived.RangeFuncLeaves
import Derived.Shelf.Abstract
import Derived.Shelf.RegionOpen
import Derived.WalkKit
import Derived.WalkSpells
import Derived.WalkLawsBesides
import Derived.OwnWalkIn
import Derived.TacticsInMore
import Derived.LoopNIn
import Derived.LoopIn
import Derived.BigQuiet
import Derived.RegionIn
import Derived.Deep.QuietTactic
import Derived.Lib.OthersKept
import Derived.Maps.AppendAt
import Derived.Lib.IndexBytes
import Derived.Lib.SmallJoins
import Derived.Deep.RegionWith
import Derived.ArgAppend
import Derived.Laws.CopyOwn
import Derived.Laws.MakeOwn
import Derived.Test.YtcfcjljapamcoabGreatDoorTer
import Derived.Test.YtcfcjljapamcoabGreatDoorMglr
import Derived.Test.YtcfcjljapamcoabGreatDoorMgdr
import Derived.Shelf.SlSortCmp.QuietGrown
import Derived.Deep.Upon
import Derived.Test.YtcfcjljapamcoabGreatDoorMpqr
namespace Go.Proofs
open Go.RowKit Go.Shelf
set_option maxRecDepth 100000
attribute [local go_sem] Oper.semAt_some
end Go.Proofs
namespace Go.Proofs
open Go.RowKit Go.Shelf
set_option maxRecDepth 100000
attribute [local go_sem] Oper.semAt_some
attribute [local go_sem ↓] Go.wp_at_zero Go.wp_at_succ
def joinS (l:List Int):ByteArray:=match joinB l with | some t=>⟨t.toArray⟩ | none=>⟨#[]⟩
def joinE (l:List Int):Int:=match joinB l with | some _=>0 | none=>11
theorem joinRes_eq (l:List Int):JoinRes (joinB l) = .tuple #[.string (joinS l),.int .i64 (joinE l)]:=by
 unfold JoinRes joinS joinE
 cases joinB l <;> rfl
def ZW (B h:Nat):Nat→Prop:=fun k=>(B≤k∧k<h)∨h+2≤k
theorem unit_at {s:ByteArray} {p:Nat} (_hp:p<s.size):wd (uAt s p:Int)≠0:=by
 rw [wd_uAt]
 have:=uw_pos s p
 omega
theorem units_all (s:ByteArray):AllU (intsU (units s)):=by
 have:∀ k p,∀ x∈unitsN s k p,wd (x.2:Int)≠0:=by
  intro k
  induction k with
  | zero=>intro p x hx;simp [unitsN] at hx
  | succ k ih=>
   intro p x hx
   by_cases hp:p<s.size
   · rw [unitsN_step s k p hp] at hx
     rcases List.mem_cons.1 hx with rfl | hx
     · exact unit_at hp
     · exact ih _ x hx
   · rw [unitsN_end s _ p hp] at hx;simp at hx
 intro u hu
 obtain ⟨x,hx,rfl⟩:=List.mem_map.1 hu
 exact this _ _ x hx
theorem wk_start {W0 Ws w1 V:World} {rs:List Rl} {st:St} {v lv uv:Value} {s:ByteArray} {wb mb:Nat} {d:List Int} (_hP:PW W0 v rs st) (hs:s.size≤16384) (hb0:Below W0.heap.size W0 Ws) (h:StQ Ws w1 rs v s wb mb lv uv d) (hg:Grown w1 V) (hsz:V.heap.size=w1.heap.size+2) :
 WkAt (ZW Ws.heap.size w1.heap.size) (w1.heap.size+2) W0 V Ws.heap.size wb mb v lv rs d (intsU (units s)) [] [] (intsU (units s)):=by
 have hn:(intsU (units s)).length≤16384:=by rw [intsU_length];have:=units_len s;omega
 have hwb:=blk_lt h.blk
 have hmw:=h.mw
 have hmb:=h.mb
 have hb1:=h.bel.size
 have hlo:∀ b,lv.ownBlock=some b→b<w1.heap.size∧Ws.heap.size≤b:=fun b hb=>⟨(World.ownsRow.lt h.ord b hb).2,(World.ownsRow.lt h.ord b hb).1⟩
 have hup:∀ b,uv.ownBlock=some b→b<w1.heap.size∧mb+1≤b:=fun b hb=>⟨(World.ownsRow.lt h.lft b hb).2,(World.ownsRow.lt h.lft b hb).1⟩
 have gb:=hg.below
 refine ⟨.slice none 0 0,uv,(intsU (units s)).length,0,intsU (units s),fun _=>none,?_⟩
 exact {
  blk:=h.blk.fr (fr_grown hg fun _=>False) id
  map:=h.map.kept fun o ho=>(gb.block mb (blk_lt ho)).trans ho
  fi:=fun u bv hu=>by cases hu
  don:=OwnI.nil _ _
  uni:=(h.lft.below gb (Nat.le_refl _)).le (by omega)
  ul:=rfl
  rm:=Nat.zero_le _
  lfe:=rfl
  n3:=by omega
  ord:=h.ord.below gb (Nat.le_refl _)
  oln:=h.len
  srt:=h.srt
  du:=fun b hb=>by cases hb
  lx:=fun b hb=>⟨fun e=>(by cases e),fun e=>by have:=h.lo b hb;have:=(hup b e).2;omega⟩
  fx:=fun u bv hu=>by cases hu
  bel:=hb0.trans ((h.bel.trans (gb.mono hb1)).mono hb0.size)
  b0:=hb0.size
  b1:=hmb
  b2:=by omega
  b3:=by have:=hg.size;omega
  at3:=G3.nil _ _
  nN:=rfl
  zt:=fun k hk => .inr hk
  tw:=by omega
  zb:=fun k hk=>by rcases hk with hk | hk <;> omega
  zw := .inl ⟨by omega,hwb⟩
  zm := .inl ⟨hmb,by omega⟩
  zd:=fun b hb=>by cases hb
  zu:=fun b hb => .inl ⟨by have:=(hup b hb).2;omega,(hup b hb).1⟩
  zl:=fun b hb => .inl ⟨(hlo b hb).2,(hlo b hb).1⟩
  zf:=fun u bv hu=>by cases hu }
def endOf (rs:List Rl) (s:ByteArray):List Stp × List Int:=match (wgh rs).1 with
 | some st=>((fin3 rs st (intsU (units s))).1,(fin3 rs st (intsU (units s))).2.1)
 | none=>([],[])
theorem may_ok {rs:List Rl} {s:ByteArray} (h:mayE rs s=0):∃ st,wgh rs=(some st,0,0)∧s.size≤16384∧Fin rs st∧(allE rs).2=0∧(∀ r∈rs,chk r=0)∧G3 rs (intsU (units s)) (endOf rs s).1 (endOf rs s).2 []:=by
 unfold mayE at h
 by_cases h1:(chkW rs).2≠0
 · rw [if_pos h1] at h;exact absurd h h1
 · rw [if_neg h1] at h
   by_cases h2:16384<s.size
   · rw [if_pos h2] at h;cases h
   · have hfe:fea rs=true:=by
      cases e:fea rs with
      | true=>rfl
      | false=>exact absurd (fea_chk e) h1
     obtain ⟨st,hw⟩:=wgh_zero2 hfe
     have hF:=wgh_fin hw
     have hc:=wgh_chk hw
     refine ⟨st,hw,by omega,hF,fea_all hw,hc,?_⟩
     have:=fin3_G3 hF hc (intsU (units s))
     unfold endOf
     rw [hw]
     exact this
def runT (rs:List Rl) (s:ByteArray):ByteArray:=if mayE rs s=0 then joinS (endOf rs s).2 else ⟨#[]⟩
set_option maxHeartbeats 4000000 in
theorem run_bad (v:Value) (rs:List Rl) (s:ByteArray) (w:World) (hT:Tab w) (h:PsR w v rs) (hE:mayE rs s≠0):Calls Tryz.prog 28 #[.agg #[v],.string s] w fun e w'=>e = .returned (.tuple #[.string ⟨#[]⟩,.int .i64 (mayE rs s)])∧Below w.heap.size w w':=by
 have HC:Hid (∀ W,Grown w W→Calls Tryz.prog 43 #[.agg #[v],.string s] W fun e w'=>e = .returned (.int .i64 (mayE rs s))∧Below w.heap.size w w'):=fun W hg=>(may_any v rs s W (hT.grown hg) (h.grown hg)).mono (by
  rintro e w' ⟨h1,h2⟩
  exact ⟨h1,hg.below.trans (h2.mono hg.size)⟩)
 obtain ⟨E,hE2⟩:∃ E,mayE rs s=E:=⟨_,rfl⟩
 rw [hE2] at hE HC ⊢
 have hE3:(E != 0)=true:=by simpa using hE
 obtain ⟨ra,rc,hv,hx1,hx2⟩:=h
 subst hv
 clear hx1 hx2 hE2 hT
 go_enter Tryz.func28,Tryz.ntmps28
 go_wp2_with (go_at_call 43;refine (HC.out _ (by (repeat (first | exact Grown.refl _ | refine Grown.alloc ?_ _ | refine Grown.drew ?_)))).mono ?_;rintro e w1 ⟨rfl,hB⟩)
 go_ret2
 exact ⟨rfl,hB⟩
set_option maxHeartbeats 4000000 in
theorem run_good (v:Value) (rs:List Rl) (s:ByteArray) (w:World) (hT:Tab w) (hz:0<w.heap.size) (h:PsR w v rs) (hE:mayE rs s=0):Calls Tryz.prog 28 #[.agg #[v],.string s] w fun e w'=>e = .returned (.tuple #[.string (joinS (endOf rs s).2),.int .i64 0])∧Below w.heap.size w w':=by
 have HC:Hid (∀ W,Grown w W→Calls Tryz.prog 43 #[.agg #[v],.string s] W fun e w'=>e = .returned (.int .i64 0)∧Below W.heap.size W w'):=fun W hg=>(may_any v rs s W (hT.grown hg) (h.grown hg)).mono (by
  rintro e w' ⟨h1,h2⟩
  rw [hE] at h1
  exact ⟨h1,h2⟩)
 obtain ⟨st,hw,hs,hF,hall,hck,hG⟩:=may_ok hE
 have HPW:Hid (∀ W,Below w.heap.size w W→PW W v rs st):=fun W hb=>⟨hT.below hb hz,Nat.lt_of_lt_of_le hz hb.size,h.below hb (Nat.le_refl _),hF,hall,hck⟩
 have HSt:Hid (∀ W,Below w.heap.size w W→Calls Tryz.prog 44 #[v,.string s] W (StE W rs v s)):=fun W hb=>start_any v rs s W (h.below hb (Nat.le_refl _)) (by have:=hF.n;omega) (fun r hr=>by have:=(chk_ok (hck r hr)).k8;omega) (by omega)
 obtain ⟨xf,hxf⟩:∃ xf,(endOf rs s).1=xf:=⟨_,rfl⟩
 obtain ⟨df,hdf⟩:∃ df,(endOf rs s).2=df:=⟨_,rfl⟩
 rw [hxf,hdf] at hG
 rw [hdf]
 have HG:=Hid.mk' (And.intro hG (And.intro hs (And.intro hF hck)))
 have hsl:IsSl v:=by
  obtain ⟨a,c,e,_⟩:=h
  exact ⟨a,_,c,e⟩
 obtain ⟨v1,v2,v3,hv⟩:=hsl
 subst hv
 clear h hT hz hE hw hs hF hall hck hG hxf hdf
 refine (callsIn_wide (n:=5)).1 ?_
 refine callsIn_of_wp_marks Tryz.func28 rfl trivial ?_ rfl
 simp only [Tryz.ntmps28,List.size_toArray,List.length_cons,List.length_nil,Nat.reduceAdd,Nat.reduceSub,Array.replicate_succ,Array.replicate_zero,List.push_toArray,List.append_toArray,List.nil_append,List.cons_append]
 gi_wp2_with (first
  | (refine ⟨trivial,?_⟩;gi_at_call 43;refine (callsIn_wide.2 (HC.out _ (by (repeat (first | exact Grown.refl _ | refine Grown.alloc ?_ _ | refine Grown.drew ?_))))).mono ?_;rintro e w1 ⟨rfl,hB⟩;have hbk:=(hB.block w.heap.size (by simp)).trans (heap_alloc_new w _);have hbx:w1.cell? ⟨w.heap.size,0,none⟩=some (.slice v1 v2 v3):=(cell_of hbk).trans rfl;have HB:Hid (Below w.heap.size w w1):=((Grown.refl w).alloc _).below.trans (hB.mono (by simp));clear hB hbk)
  | (refine ⟨trivial,?_⟩;gi_at_call 44;refine (callsIn_wide.2 (HSt.out _ HB.out)).mono ?_;rintro e w2 ⟨wb,mb,lv,uv,d,rfl,hQ⟩;have HQ:=Hid.mk' hQ;clear hQ))
 obtain ⟨h,hh⟩:∃ h,h=w2.heap.size:=⟨_,rfl⟩
 have hb12:w1.heap.size≤h:=by rw [hh];exact HQ.out.bel.size
 have hG:=HG.out
 have hlen:=hG.1.lens hG.2.2.1 hG.2.2.2
 have hl0:(intsU (units s)).length≤16384:=by rw [intsU_length];have:=units_len s;have:=hG.2.1;omega
 have HDL:Hid (df.length≤4398046511104):=by show _≤_;omega
 have HST:Hid (∀ V,Fr w1 V (fun k=>ZW w1.heap.size h k∨h≤k)→Below w1.heap.size w1 V):=fun V hf=>hf.below (fun k hk=>by
  rcases hk with (hk | hk) | hk <;> omega) (Nat.le_refl _)
 have hZb:∀ k,(ZW w1.heap.size h k∨h≤k)→w1.heap.size≤k:=fun k hk=>by rcases hk with (hk | hk) | hk <;> omega
 refine wpIn_overZ (enc:=encSt) (by omega) (gf:=45) (pa:=#[.pointer (some ⟨wb,0,none⟩)]) (lb:=#[]) rfl (enters_of Tryz.func45 (by kernel_rfl) rfl) (xf:=xf) (b:=w1.heap.size) (h:=h) (Z:=ZW w1.heap.size h) (E:=fun Y=>WkAt (ZW w1.heap.size h) (h+2) w1 Y w1.heap.size wb mb (.slice v1 v2 v3) lv rs d (intsU (units s)) xf df []) hh hb12
  (fun e=>by rcases e with e | e <;> omega) (fun e=>by rcases e with e | e <;> omega)
  (fun r=>steps_seq (HPW.out w1 HB.out) hl0 (units_all s) hG.1 (by
   have:=wk_start (HPW.out w1 HB.out) hG.2.1 (Below.refl _ _) HQ.out (((Grown.refl w2).alloc (.deferred (some []))).alloc (.loop r)) (by simp)
   rw [←hh] at this
   exact this) (Nat.le_refl _) _ _ (by omega))
  (fun X o hX=>by
   obtain ⟨dv,uv,n,room,uu,f,hk⟩:=hX
   exact ⟨dv,uv,n,room,uu,f,hk.keep (KAll.put o (fun e=>by rcases e with e | e <;> omega) (by omega)) (Nat.le_refl _)⟩)
  (fun _=>rfl) (fun _ W=>Below w1.heap.size w1 W) (fun _ _ _=>False)
  (fun _ X Y hX hf=>hX.trans (hf.below (fun k hk=>hZb k hk) hX.size)) (fun _ _ _ _ hX _=>hX) HQ.out.bel
  (fun x _ => { tmps:=#[.agg #[.slice v1 v2 v3],.string s,.pointer (some ⟨w.heap.size,0,none⟩),undef,.string ⟨#[]⟩,.int .i64 0,.int .i64 0,.pointer (some ⟨wb,0,none⟩),undef,undef,.agg #[.slice v1 v2 v3],.string s,.int .i64 0,.int .i64 0,.bool false,undef,.pointer (some ⟨w.heap.size,0,none⟩),.slice v1 v2 v3,.string s,.pointer (some ⟨wb,0,none⟩),.pointer (some ⟨wb,0,none⟩),.func (.func 45) #[.pointer (some ⟨wb,0,none⟩)] #[],.agg (fs1 x).toArray,undef,undef,undef,undef,undef,undef,undef,undef,undef],defers:=[] })
  (fun _ W=>W) (fun _ W=>Grown.refl W) ?assign ?body ?done ?stop
 case assign=>
  intro l x W K hK
  rw [show (#[22]:Array Tmp).zip (encSt x)=#[(22,Value.agg (fs1 x).toArray)] by simp [encSt,List.zip_toArray]]
  gi_wp2
  first | exact hK | (simp only [List.foldl_toArray,List.foldl_cons,List.foldl_nil,List.setIfInBounds_toArray,List.set_cons_succ,List.set_cons_zero];exact hK)
 case body=>
  rintro l pre x W X hI _ _ _ _
  gi_wp2
  exact ⟨KAll.refl _ _ _,hI⟩
 case done=>
  rintro D W hD hI hE hK
  obtain ⟨dv,uv,n,room,uu,f,hk⟩:=hE
  have HKD:=Hid.mk' hk
  obtain ⟨da,dc,hdv⟩:=hk.don.sl
  subst hdv
  have c3:W.cell? ⟨wb,3,none⟩=some (.slice da df.length dc):=by rw [cell_of hk.blk];rfl
  have HJ:Hid (Calls Tryz.prog 46 #[.slice da df.length dc] W fun e w'=>e = .returned (.tuple #[.string (joinS df),.int .i64 (joinE df)])∧Below W.heap.size W w'):=by
   have:=join_any _ df W hk.don.ir.ints HDL.out
   rw [joinRes_eq] at this
   exact this
  have HIW:Hid (Below w.heap.size w W):=HB.out.trans (hI.mono HB.out.size)
  have HKK:=Hid.mk' hK
  have HDD:Hid (w.heap.size≤D):=by have:=HB.out.size;show _≤_;omega
  clear hk hI hK
  gi_wp2_with (refine ⟨trivial,?_⟩;gi_at_call 46;refine (callsIn_wide.2 HJ.out).mono ?_;rintro e w5 ⟨rfl,hb5⟩;have HB5:=Hid.mk' hb5;clear hb5)
  have hK5:=(HB5.out.block D (blk_lt HKK.out)).trans HKK.out
  refine ⟨by simp,.inl ⟨_,_,rfl,run_takeDeferred hK5,?_⟩⟩
  refine ⟨_,results_tmp2 rfl _ _ _,rfl,?_⟩
  have hb:Below w.heap.size w w5:=HIW.out.trans (HB5.out.mono HIW.out.size)
  exact hb.trans (belowK_b (w:=w) (Nat.le_refl _) w5 D _ _ HDD.out hK5 rfl rfl)
 case stop=>
  rintro D c pre W _ _ h _
  exact h.elim
theorem run_any (v:Value) (rs:List Rl) (s:ByteArray) (w:World) (hT:Tab w) (hz:0<w.heap.size) (h:PsR w v rs):Calls Tryz.prog 28 #[.agg #[v],.string s] w fun e w'=>e = .returned (.tuple #[.string (runT rs s),.int .i64 (mayE rs s)])∧Below w.heap.size w w':=by
 by_cases hE:mayE rs s=0
 · unfold runT
   rw [if_pos hE,hE]
   exact run_good v rs s w hT hz h hE
 · unfold runT
   rw [if_neg hE]
   exact run_bad v rs s w hT h hE
end Go.Proofs
