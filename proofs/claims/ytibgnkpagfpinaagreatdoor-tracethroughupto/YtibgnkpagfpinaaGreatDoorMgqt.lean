/-
  Several texts in one (Zq Zr Tx Zt Zu).
-/
import Derived.RangeFuncNested
import Derived.RangeFuncBound
import Derived.RangeFuncCalls
import Derived.RangeFuncLeaves
import Derived.Shelf.Abstract
import Derived.Shelf.RegionOpen
import Derived.WalkKit
import Derived.WalkSpells
import Derived.WalkLawsBesides
import Derived.OwnWalkIn
import Derived.TacticsInMore
import Derived.LoopNIn
import Derived.LoopIn
import Derived.BigQuiet
import Derived.RegionIn
import Derived.Deep.QuietTactic
import Derived.Deep.RegionWith
import Derived.Lib.OthersKept
import Derived.Maps.AppendAt
import Derived.Lib.SmallJoins
import Derived.Shelf.SlSortCmp.QuietGrown
import Derived.RangeFuncWrites
import Derived.RangeFuncBox
import Derived.Maps.OwnIn
import Derived.Test.YtibgnkpagfpinaaGreatDoorZpt
import Derived.Test.YtibgnkpagfpinaaGreatDoorMgot
import Derived.Test.YtibgnkpagfpinaaGreatDoorMgmt
namespace Go.Proofs
open Go.RowKit Go.Shelf
set_option maxRecDepth 100000
attribute [local go_sem] Oper.semAt_some
attribute [local go_sem ↓] Go.wp_at_zero Go.wp_at_succ
def FsQ (W:World) (tb base:Nat) (rv:Value) (s:ByteArray) (bv:Value) (bk:List Int) (rs:List Rl) (d l:List Int) (dn:Int) (e:Ending) (W':World):Prop:=
 ∃ v p' bv' bk',e = .returned v∧TK W' tb base rv s p' bv' bk' (dn+wds (layd rs d l))∧lfO bk' s p'=lefd rs d l∧Fr W W' (fun k=>k=tb∨bv.ownBlock=some k)∧(∀ b,bv'.ownBlock=some b→bv.ownBlock=some b∨W.heap.size<b)∧bk'.length=bk.length - (stp rs d l).t.toNat+(stp rs d l).b.toNat
theorem follow_step {W Wb:World} {tb base:Nat} {rv:Value} {s:ByteArray} {p:Nat} {bv:Value} {bk:List Int} {dn:Int} (h:TK W tb base rv s p bv bk dn) (hb:bk.length≤3000000) (hs:s.size≤90000) (hba:base≤W.heap.size) (hd0:0≤dn) (hd1:dn≤1000000000) (hT:Tab Wb) (hpos:0<Wb.heap.size) {rs:List Rl} (hP:PsR Wb rv rs) (hbW:Below Wb.heap.size Wb W) (hbt:Wb.heap.size≤tb) (hrl:rs.length≤1000000) (hc:∀ r∈rs,chk r=0) {d l:List Int} (hl:lfO bk s p=l) (hne:l≠[]):Calls Tryz.prog 37 #[.pointer (some ⟨tb,0,none⟩),.agg (fs1 (stp rs d l)).toArray] W (FsQ W tb base rv s bv bk rs d l dn):=by
 have hl0:=List.length_pos_iff.2 hne
 rcases nextS_ok hc d hl0 with ⟨h1,hok⟩ | ⟨i,hi,h1,h2,h3,hok⟩
 · obtain ⟨e1,e2,e3⟩:=stp_none h1
   refine (follow_plain h (stp rs d l) 1 (by rw [e1];rfl) (by rw [hl];exact hl0) hb hs hba hd0 hd1 (by rw [e1];show (-1:Int)<0;decide)).mono ?_
   rintro e W' ⟨v,p',bv',bk',rfl,a1,a2,a3,a4,a5⟩
   refine ⟨v,p',bv',bk',rfl,by rw [e2,←hl];exact a1,by rw [e3,←hl];exact a2,a3,a4,?_⟩
   rw [e1,a5]
   rfl
 · obtain ⟨e1,e2,e3⟩:=stp_rule hi h1
   have hO:=chk_ok (hc _ (List.getElem_mem hi))
   have ho:(outs rs[i] (l.take rs[i].key.length)).length=rs[i].res.length:=by simp [outs]
   have q1:=hO.r16
   refine (follow_rule h (stp rs d l) rs[i].key.length i (by rw [e1]) (by rw [hl];exact h2) hb hs hba hd0 hd1 (by rw [e1]) hT hpos hP hbW hbt hi hrl (by rw [hl];exact h3) rfl rfl (by rw [hl,List.length_take,ho];omega) (by rw [hl,List.length_drop,ho];omega)).mono ?_
   rintro e W' ⟨v,p',bv',bk',rfl,a1,a2,a3,a4,a5⟩
   rw [hl] at a1 a2 a5
   refine ⟨v,p',bv',bk',rfl,by rw [e2];exact a1,by rw [e3];exact a2,a3,a4,?_⟩
   have e5:((outs rs[i] (l.take rs[i].key.length)).drop rs[i].cu.toNat).length=(backP rs[i]).length:=by rw [List.length_drop,ho];simp [backP]
   rw [e1,a5,e5]
   rfl
theorem wds_rest (s:ByteArray):∀ k p,s.size - p≤k→p≤s.size→wds (intsU (unitsN s s.size p))=(s.size:Int) - p:=by
 intro k
 induction k with
 | zero=>
  intro p h1 h2
  rw [unitsN_end s _ p (by omega)]
  show (0:Int)=_
  omega
 | succ k ih=>
  intro p h1 h2
  by_cases hp:p<s.size
  · have h3:=uw_in s p hp
    have h4:=uw_pos s p
    rw [units_next s p hp]
    show wd (uAt s p)+wds (intsU (unitsN s s.size (p+uw s p)))=_
    rw [ih _ (by omega) h3,wd_uAt]
    omega
  · rw [unitsN_end s _ p hp]
    show (0:Int)=_
    omega
theorem clean_at {s:ByteArray} {p:Nat} (hp:p≤s.size):wds (lfO [] s p)=(s.size:Int) - p:=wds_rest s _ p (Nat.le_refl _) hp
inductive TrB (rs:List Rl) (n:Int) (l0:List Int):List Stp→List Int→List Int→Nat→List Bk→Prop
 | nil:TrB rs n l0 [] [] l0 0 []
 | on {xs:List Stp} {d l:List Int} {c:Nat} {bl:List Bk} (h:TrB rs n l0 xs d l c bl) (hl:l≠[]) (hc:c - (stp rs d l).t.toNat+(stp rs d l).b.toNat≠0):TrB rs n l0 (xs++[stp rs d l]) (d++layd rs d l) (lefd rs d l) (c - (stp rs d l).t.toNat+(stp rs d l).b.toNat) bl
 | up {xs:List Stp} {d l:List Int} {c:Nat} {bl:List Bk} (h:TrB rs n l0 xs d l c bl) (hl:l≠[]) (hc:c - (stp rs d l).t.toNat+(stp rs d l).b.toNat=0):TrB rs n l0 (xs++[stp rs d l]) (d++layd rs d l) (lefd rs d l) 0 (bl++[upB bl (n - wds (lefd rs d l)) (wds (d++layd rs d l))])
theorem TrB.g3 {rs:List Rl} {n:Int} {l0:List Int} {xs:List Stp} {d l:List Int} {c:Nat} {bl:List Bk} (h:TrB rs n l0 xs d l c bl):G3 rs l0 xs d l:=by
 induction h with
 | nil=>exact G3.nil _ _
 | on _ hl _ ih=>exact ih.snoc hl
 | up _ hl _ ih=>exact ih.snoc hl
theorem TrB.len {rs:List Rl} {n:Int} {l0:List Int} {xs:List Stp} {d l:List Int} {c:Nat} {bl:List Bk} (h:TrB rs n l0 xs d l c bl):bl.length≤xs.length:=by
 induction h with
 | nil=>exact Nat.le_refl _
 | on _ _ _ ih=>simp;omega
 | up _ _ _ ih=>simp;omega
structure BlW (W3:World) (rv:Value) (s:ByteArray) (tb lb h:Nat) (F:Nat→Prop) (X:World) (l:List Int) (c:Nat) (dn:Int) (bl:List Bk) (p:Nat) (bv:Value) (bk:List Int) (lv:Value):Prop where
 tk:TK X tb W3.heap.size rv s p bv bk dn
 lf:lfO bk s p=l
 ct:bk.length=c
 bx:X.heap[lb]? = some (.cells #[lv] 32 (0,0))
 ow:OwnK X W3.heap.size lv bl
 be:Below W3.heap.size W3 X
 ff:∀ k,F k→h≤k∧k<X.heap.size
 b1:∀ b,bv.ownBlock=some b→¬ F b∧b≠h∧b≠h+1∧b≠lb∧lv.ownBlock≠some b
 b2:∀ b,lv.ownBlock=some b→¬ F b∧b≠h∧b≠h+1∧b≠tb∧b≠lb
section BlW
variable {W3:World} {rv:Value} {s:ByteArray} {tb lb h:Nat} {F:Nat→Prop} {X:World} {l:List Int} {c:Nat} {dn:Int} {bl:List Bk} {p:Nat} {bv:Value} {bk:List Int} {lv:Value}
theorem BlW.stab (k:BlW W3 rv s tb lb h F X l c dn bl p bv bk lv) (htb:W3.heap.size≤tb∧tb<h) (hlb:W3.heap.size≤lb∧lb<h) (hX:h≤X.heap.size) {F':Nat→Prop} {Y:World} (hf:Fr X Y fun k=>F k∨k=h+1) (hn:∀ k,F' k→F k∨X.heap.size≤k) (hlt:(∀ k,F k→k<X.heap.size)→∀ k,F' k→k<Y.heap.size):BlW W3 rv s tb lb h F' Y l c dn bl p bv bk lv:=by
 have nF:∀ k,k<X.heap.size→¬ F k→¬ F' k:=fun k hk hn' hf'=>by rcases hn k hf' with e | e;exact hn' e;omega
 refine ⟨k.tk.fr hf (fun e => ?_) (fun b hb e => ?_),k.lf,k.ct,(hf.block _ (blk_lt k.bx) fun e => ?_).trans k.bx,own_fr k.ow hf (fun b hb e => ?_),k.be.trans (hf.below (fun i e => ?_) k.be.size),fun i hi=>⟨?_,hlt (fun i hi=>(k.ff i hi).2) i hi⟩,fun b hb=>⟨nF _ (World.ownsRow.lt k.tk.own b hb).2 (k.b1 b hb).1,(k.b1 b hb).2⟩,fun b hb=>⟨nF _ (World.ownsRow.lt k.ow b hb).2 (k.b2 b hb).1,(k.b2 b hb).2⟩⟩
 · rcases e with e | e
   · have:=(k.ff _ e).1;omega
   · omega
 · rcases e with e | e
   · exact (k.b1 b hb).1 e
   · exact (k.b1 b hb).2.2.1 e
 · rcases e with e | e
   · have:=(k.ff _ e).1;omega
   · omega
 · rcases e with e | e
   · exact (k.b2 b hb).1 e
   · exact (k.b2 b hb).2.2.1 e
 · rcases e with e | e
   · have:=(k.ff _ e).1;omega
   · omega
 · rcases hn i hi with e | e
   · exact (k.ff _ e).1
   · omega
theorem BlW.foll (k:BlW W3 rv s tb lb h F X l c dn bl p bv bk lv) (htb:W3.heap.size≤tb∧tb<h) (hlb:W3.heap.size≤lb∧lb<h) (hne:tb≠lb) (hX:h+2≤X.heap.size) {rs:List Rl} {d:List Int} {e:Ending} {Y:World} (hq:FsQ X tb W3.heap.size rv s bv bk rs d l dn e Y):∃ p' bv' bk',KAll (ZF F h) W3.heap.size X Y∧BlW W3 rv s tb lb h F Y (lefd rs d l) (c - (stp rs d l).t.toNat+(stp rs d l).b.toNat) (dn+wds (layd rs d l)) bl p' bv' bk' lv:=by
 obtain ⟨v,p',bv',bk',_,a1,a2,a3,a4,a5⟩:=hq
 have hbel:Below W3.heap.size X Y:=a3.below (fun i e=>by
  rcases e with e | e
  · omega
  · exact (World.ownsRow.lt k.tk.own _ e).1) k.be.size
 refine ⟨p',bv',bk',⟨hbel,fun i o hi ho=>(a3.block i (blk_lt ho) fun e => ?_).trans ho⟩,a1,a2,by rw [a5,k.ct],(a3.block _ (blk_lt k.bx) fun e => ?_).trans k.bx,own_fr k.ow a3 (fun b hb e => ?_),k.be.trans hbel,fun i hi=>⟨(k.ff i hi).1,Nat.lt_of_lt_of_le (k.ff i hi).2 a3.size⟩,fun b hb => ?_,k.b2⟩
 · rcases e with e | e
   · rcases hi with hi | hi | hi
     · have:=(k.ff _ hi).1;omega
     · omega
     · omega
   · have:=k.b1 i e
     rcases hi with hi | hi | hi
     · exact this.1 hi
     · exact this.2.1 hi
     · exact this.2.2.1 hi
 · rcases e with e | e
   · omega
   · exact (k.b1 _ e).2.2.2.1 rfl
 · rcases e with e | e
   · exact (k.b2 b hb).2.2.2.1 e
   · exact (k.b1 b e).2.2.2.2 hb
 · rcases a4 b hb with e | e
   · exact k.b1 b e
   · exact ⟨fun hf=>by have:=(k.ff _ hf).2;omega,by omega,by omega,by omega,fun hl=>by have:=(World.ownsRow.lt k.ow b hl).2;omega⟩
theorem BlW.up1 (k:BlW W3 rv s tb lb h F X l c dn bl p bv bk lv) (htb:W3.heap.size≤tb∧tb<h) (hlb:W3.heap.size≤lb∧lb<h) (hne:tb≠lb) (hX:h+2≤X.heap.size) {b:Bk} {gg n cap:Nat} {Y:World} (q1:OwnK Y W3.heap.size (.slice (some ⟨gg,0,none⟩) n cap) (bl++[b])) (q2:Fr X Y fun k=>lv.ownBlock=some k) (q3:some gg=lv.ownBlock∨X.heap.size≤gg):KAll (ZF F h) W3.heap.size X (Y.setCell ⟨lb,0,none⟩ (.slice (some ⟨gg,0,none⟩) n cap))∧BlW W3 rv s tb lb h F (Y.setCell ⟨lb,0,none⟩ (.slice (some ⟨gg,0,none⟩) n cap)) l c dn (bl++[b]) p bv bk (.slice (some ⟨gg,0,none⟩) n cap):=by
 have hf:Fr X (Y.setCell ⟨lb,0,none⟩ (.slice (some ⟨gg,0,none⟩) n cap)) (fun k=>lv.ownBlock=some k∨k=lb):=(q2.mono fun _ _ e => .inl e).trans (fr_set Y lb 0 _) fun _ _ e => .inr e
 have hbel:=hf.below (base:=W3.heap.size) (fun i e=>by
  rcases e with e | e
  · exact (World.ownsRow.lt k.ow _ e).1
  · omega) k.be.size
 have hg:¬ F gg∧gg≠h∧gg≠h+1∧gg≠tb∧gg≠lb:=by
  rcases q3 with e | e
  · exact k.b2 gg e.symm
  · exact ⟨fun hf=>by have:=(k.ff _ hf).2;omega,by omega,by omega,by omega,by omega⟩
 have hbx:Y.heap[lb]? = some (.cells #[lv] 32 (0,0)):=(q2.block _ (blk_lt k.bx) fun e=>(k.b2 _ e).2.2.2.2 rfl).trans k.bx
 refine ⟨⟨hbel,fun i o hi ho=>(hf.block i (blk_lt ho) fun e => ?_).trans ho⟩,k.tk.fr hf (fun e => ?_) (fun b hb e => ?_),k.lf,k.ct,by rw [set_heap hbx];rfl,own_fr q1 (fr_set Y lb 0 _) (fun b hb e => ?_),k.be.trans hbel,fun i hi=>⟨(k.ff i hi).1,Nat.lt_of_lt_of_le (k.ff i hi).2 hf.size⟩,fun b hb=>⟨(k.b1 b hb).1,(k.b1 b hb).2.1,(k.b1 b hb).2.2.1,(k.b1 b hb).2.2.2.1,fun e => ?_⟩,fun b hb => ?_⟩
 · rcases e with e | e
   · have:=k.b2 i e
     rcases hi with hi | hi | hi
     · exact this.1 hi
     · exact this.2.1 hi
     · exact this.2.2.1 hi
   · rcases hi with hi | hi | hi
     · have:=(k.ff _ hi).1;omega
     · omega
     · omega
 · rcases e with e | e
   · exact (k.b2 _ e).2.2.2.1 rfl
   · exact hne e
 · rcases e with e | e
   · exact (k.b1 b hb).2.2.2.2 e
   · exact (k.b1 b hb).2.2.2.1 e
 · have hb:some gg=some b:=hb
   injection hb with hb
   have e:b=lb:=e
   exact hg.2.2.2.2 (by rw [hb,e])
 · have e:some gg=some b:=e
   injection e with e
   rcases q3 with e2 | e2
   · exact (k.b1 b hb).2.2.2.2 (by rw [←e2,e])
   · have:=(World.ownsRow.lt k.tk.own b hb).2;omega
 · have hb:some gg=some b:=hb
   injection hb with hb
   rw [←hb]
   exact hg
end BlW
theorem made_of {w W0:World} {rs:List Rl} {s:ByteArray} {b1 b2:Nat} {v:Value} (hT:Tab w) (hz:0<w.heap.size) (hb:Below w.heap.size w W0) (hE:mayE rs s=0) (h1:W0.heap[b1]? = some (.cells #[v] 22 (0,0))) (h2:W0.heap[b2]? = some (.cells #[.string s] 9 (0,0))) (hP:PsR W0 v rs):∃ st,Made W0 rs s b1 b2 v st:=by
 obtain ⟨st,hw,hs,hF,hall,hck,hG⟩:=may_ok hE
 exact ⟨st,⟨hT.below hb hz,Nat.lt_of_lt_of_le hz hb.size,hP,hF,hall,hck⟩,(cell_of h1).trans rfl,(cell_of h2).trans rfl,hs,hG⟩
theorem rep38:(Array.replicate 38 undef:Array Value)=#[undef,undef,undef,undef,undef,undef,undef,undef,undef,undef,undef,undef,undef,undef,undef,undef,undef,undef,undef,undef,undef,undef,undef,undef,undef,undef,undef,undef,undef,undef,undef,undef,undef,undef,undef,undef,undef,undef]:=by kernel_rfl
theorem wds_lim (l:List Int):0≤wds l∧wds l≤4*(l.length:Int):=by
 induction l with
 | nil=>simp [wds]
 | cons u l ih=>
  have:=wd_lim u
  simp only [wds,List.length_cons]
  omega
theorem g3_next {rs:List Rl} {l0:List Int} {pre xf:List Stp} {x:Stp} {d l df:List Int} (h:G3 rs l0 pre d l) (hf:G3 rs l0 xf df []) (hp:pre++[x] <+: xf):l≠[]∧x=stp rs d l:=by
 have hl:l≠[]:=fun e=>by
  subst e
  have e1:=(h.one hf).1
  have:=hp.length_le
  rw [e1] at this
  simp at this
  omega
 refine ⟨hl,?_⟩
 have h1:=(h.snoc hl).prefix hf
 have h2:=List.prefix_iff_eq_take.1 hp
 rw [List.length_append,List.length_singleton] at h1 h2
 rw [←h2] at h1
 have:=List.append_cancel_left h1
 injection this with this _
 exact this.symm
def BlQ (w:World) (rs:List Rl) (s:ByteArray) (e:Ending) (w':World):Prop:=
 Below w.heap.size w w'∧((mayE rs s≠0∧e = .returned (.tuple #[.slice none 0 0,.int .i64 (mayE rs s)]))∨(mayE rs s=0∧∃ lv bl c,e = .returned (.tuple #[lv,.int .i64 0])∧OwnK w' w.heap.size lv bl∧TrB rs s.size (intsU (units s)) (endOf rs s).1 (endOf rs s).2 [] c bl))
set_option maxHeartbeats 8000000 in
theorem blocks_any (v:Value) (rs:List Rl) (s:ByteArray) (w:World) (hT:Tab w) (hP:PsR w v rs):Calls Tryz.prog 17 #[.agg #[v],.string s] w (BlQ w rs s):=by
 have H8:Hid (∀ W,Grown w W→Calls Tryz.prog 36 #[.agg #[v],.string s] W (StpQ W rs s)):=fun W hg=>steps_any v rs s W (hT.grown hg) (hP.grown hg)
 have HTP:Hid (Tab w∧PsR w v rs):=⟨hT,hP⟩
 obtain ⟨va,vc,hv,_⟩:=hP
 obtain ⟨vn,hvn⟩:∃ n,rs.length=n:=⟨_,rfl⟩
 rw [hvn] at hv
 subst hv
 obtain ⟨W2,hW2⟩:∃ W2,W2=(w.alloc (.cells #[.slice va vn vc] 24)).alloc (.cells #[.string s] 9):=⟨_,rfl⟩
 have hg2:Grown w W2:=by rw [hW2];exact ((Grown.refl w).alloc _).alloc _
 have hb0:W2.heap[w.heap.size]? = some (.cells #[.slice va vn vc] 24 (0,0)):=by rw [hW2];exact (Below.heap_alloc _ _ _ (by simp)).trans (heap_alloc_new w _)
 have hb1:W2.heap[w.heap.size+1]? = some (.cells #[.string s] 9 (0,0)):=by rw [hW2];have:=heap_alloc_new (w.alloc (.cells #[.slice va vn vc] 24)) (.cells #[.string s] 9);simpa using this
 have z0:W2.cell? ⟨w.heap.size,0,none⟩=some (.slice va vn vc):=by rw [cell_of hb0];rfl
 have z1:W2.cell? ⟨w.heap.size+1,0,none⟩=some (.string s):=by rw [cell_of hb1];rfl
 have H82:=Hid.mk' (H8.out W2 hg2)
 have HB2:Hid (Grown w W2∧W2.heap[w.heap.size]? = some (.cells #[.slice va vn vc] 24 (0,0))∧W2.heap[w.heap.size+1]? = some (.cells #[.string s] 9 (0,0))):=⟨hg2,hb0,hb1⟩
 clear hT hg2 hb0 hb1 H8 hvn
 have hw2:=hW2.symm
 clear hW2
 refine (callsIn_wide (n:=6)).1 ?_
 refine callsIn_of_wp_marks Tryz.func17 rfl trivial ?_ rfl
 simp only [Tryz.ntmps17,List.size_toArray,List.length_cons,List.length_nil,Nat.reduceAdd,Nat.reduceSub]
 rw [rep38]
 simp only [List.append_toArray,List.nil_append,List.cons_append]
 refine wpIn_wide.2 ?_
 go_wp2_with (go_at_call 36;(try rw [hw2]);refine H82.out.mono ?_;rintro e W3 ⟨hg3,hq⟩;have HB3:=Hid.mk' hg3;have y0:=cell_below z0 hg3 (Nat.le_refl _);have y1:=cell_below z1 hg3 (Nat.le_refl _);clear hg3;rcases hq with ⟨hne,rfl⟩ | ⟨he,b1,b2,vv,rfl,hq⟩;(all_goals (first | (have HQ:=Hid.mk' hq;clear hq) | skip)))
 · have hbb:=HB2.out.1.below.trans (HB3.out.mono HB2.out.1.size)
   refine ⟨.tuple #[.slice none 0 0,.int .i64 (mayE rs s)],by simp [results,Tryz.f17,go_sem],hbb,.inl ⟨hne,rfl⟩⟩
 · obtain ⟨hl1,hl2,hx1,hx2,hrob⟩:=HQ.out
   have hbb:=HB2.out.1.below.trans (HB3.out.mono HB2.out.1.size)
   have hpos:=HTP.out.1.pos
   obtain ⟨st,hM⟩:=made_of HTP.out.1 hpos hbb he hx1 hx2 hrob.now
   have HM:=Hid.mk' hM
   have HBB:=Hid.mk' hbb
   have hs16:=hM.sz
   have hw3:=hbb.size
   have hg2s:=HB2.out.1.size
   have hb3s:=HB3.out.size
   have hl1b:=blk_lt HB2.out.2.2
   clear hl1 hl2 hx1 hx2 hrob hM hbb HQ
   obtain ⟨V,hV⟩:∃ V,V=(W3.alloc (.cells #[.slice va vn vc,.string s,.slice none 0 0,.int .i64 0] 77)).alloc (.cells #[.slice none 0 0] 32):=⟨_,rfl⟩
   have hgV:Grown W3 V:=by rw [hV];exact ((Grown.refl W3).alloc _).alloc _
   have hVs:V.heap.size=W3.heap.size+2:=by rw [hV];simp
   have hV0:V.heap[W3.heap.size]? = some (.cells #[.slice va vn vc,.string s,.slice none 0 0,.int .i64 0] 77 (0,0)):=by rw [hV];exact (Below.heap_alloc _ _ _ (by simp)).trans (heap_alloc_new W3 _)
   have hV1:V.heap[W3.heap.size+1]? = some (.cells #[.slice none 0 0] 32 (0,0)):=by rw [hV];have:=heap_alloc_new (W3.alloc (.cells #[.slice va vn vc,.string s,.slice none 0 0,.int .i64 0] 77)) (.cells #[.slice none 0 0] 32);simpa using this
   rw [←hV]
   clear hV
   refine (wpIn_wide (n:=6)).1 ?_
   refine wpIn_overF (enc:=encS) (by omega) (gf:=54) (pa:=#[]) (lb:=#[.pointer (some ⟨b1,0,none⟩),.pointer (some ⟨b2,0,none⟩)]) rfl (enters_of Tryz.func54 (by kernel_rfl) rfl) (xf:=(endOf rs s).1) (b:=W3.heap.size) (h:=W3.heap.size+2) (F0:=fun _=>False) (E:=fun _ _=>True) hVs.symm (by omega) (fun _ h=>h.elim)
    (fun r=>steps1_seqF HM.out ((hgV.alloc (.deferred (some []))).alloc (.loop r)).below _ _ (by omega)) (fun _ _ _ _ _=>trivial) (fun _=>rfl)
    (fun pre F X=>∃ d l c bl p bv bk lv,TrB rs s.size (intsU (units s)) pre d l c bl∧W3.heap.size+2≤X.heap.size∧BlW W3 (.slice va vn vc) s W3.heap.size (W3.heap.size+1) (W3.heap.size+2) F X l c (wds d) bl p bv bk lv) (fun _ _ _ _=>False)
    ?hI (fun _ _ _ _ _ _ h=>h.elim) ?hI0 ?hround ?hdone (fun _ _ _ _ _ _ _ h=>h.elim)
   case hI=>
    rintro pre F F' X Y ⟨d,l,c,bl,p,bv,bk,lv,q1,q2,q3⟩ _ _ hf hn hlt
    exact ⟨d,l,c,bl,p,bv,bk,lv,q1,Nat.le_trans q2 hf.size,q3.stab ⟨by omega,by omega⟩ ⟨by omega,by omega⟩ q2 hf hn hlt⟩
   case hI0=>
    intro r
    have hg:Grown V ((V.alloc (.deferred (some []))).alloc (.loop r)):=((Grown.refl V).alloc _).alloc _
    refine ⟨[],intsU (units s),0,[],0,.slice none 0 0,[],.slice none 0 0,TrB.nil,by simp;omega,⟨⟨?_,OwnI.nil _ _,Nat.zero_le _,fun b hb=>(by cases hb)⟩,?_,rfl,(hg.below.block _ (blk_lt hV1)).trans hV1,OwnK.nil _ _,hgV.below.trans (hg.below.mono hgV.size),fun k hk=>hk.elim,fun b hb=>(by cases hb),fun b hb=>(by cases hb)⟩⟩
    · have e:s.extract 0 s.size=s:=by simp
      rw [e]
      exact (hg.below.block _ (blk_lt hV0)).trans hV0
    · rfl
   case hround=>
    intro pre x F Wd hpre hsz n0 n1 _
    rw [show (#[25]:Array Tmp).zip (encS x)=#[(25,Value.agg (fs1 x).toArray)] from zip1 _ _]
    obtain ⟨xr,xd,xl,xt,xa,xb⟩:=x
    unfold fs1
    gi_wp2
    refine ⟨(Grown.refl _).alloc _,?_⟩
    rintro X ⟨d,l,c,bl,p,bv,bk,lv,ht,hX,k⟩ hXs hXk _
    obtain ⟨hlne,hxe⟩:=g3_next ht.g3 HM.out.end3 hpre
    have hlen:=ht.g3.lens HM.out.pw.fin HM.out.pw.ck
    have hun:(intsU (units s)).length≤16384:=by rw [intsU_length];have:=units_len s;omega
    have hbkl:bk.length≤l.length:=by rw [←k.lf];simp [lfO]
    have hwd:=wds_lim d
    have hbe:Below w.heap.size w X:=HBB.out.trans (k.be.mono hw3)
    have HF:Hid (Calls Tryz.prog 37 #[.pointer (some ⟨W3.heap.size,0,none⟩),.agg #[.int .i64 xr,.int .i64 xd,.int .i64 xl,.int .i64 xt,.int .i64 xa,.int .i64 xb]] X (FsQ X W3.heap.size W3.heap.size (.slice va vn vc) s bv bk rs d l (wds d))):=by
     have:=follow_step (d:=d) k.tk (by omega) (by omega) (by omega) hwd.1 (by omega) HTP.out.1 hpos HTP.out.2 hbe hw3 (by have:=HM.out.pw.fin.n;omega) HM.out.pw.ck k.lf hlne
     rw [←hxe] at this
     exact this
    have hcx:X.heap[Wd.heap.size]? = some (.cells #[.int .i64 xr,.int .i64 xd,.int .i64 xl,.int .i64 xt,.int .i64 xa,.int .i64 xb] 79 (0,0)):=by rw [hXk _ (by omega)];exact heap_alloc_new Wd _
    have c0:X.cell? ⟨Wd.heap.size,0,none⟩=some (.int .i64 xr):=by rw [cell_of hcx];rfl
    have c1:X.cell? ⟨Wd.heap.size,1,none⟩=some (.int .i64 xd):=by rw [cell_of hcx];rfl
    have c2:X.cell? ⟨Wd.heap.size,2,none⟩=some (.int .i64 xl):=by rw [cell_of hcx];rfl
    have c3:X.cell? ⟨Wd.heap.size,3,none⟩=some (.int .i64 xt):=by rw [cell_of hcx];rfl
    have c4:X.cell? ⟨Wd.heap.size,4,none⟩=some (.int .i64 xa):=by rw [cell_of hcx];rfl
    have c5:X.cell? ⟨Wd.heap.size,5,none⟩=some (.int .i64 xb):=by rw [cell_of hcx];rfl
    have hX4:W3.heap.size+2+2≤X.heap.size:=by have e:(Wd.alloc (.cells #[.int .i64 xr,.int .i64 xd,.int .i64 xl,.int .i64 xt,.int .i64 xa,.int .i64 xb] 79)).heap.size=Wd.heap.size+1:=by simp
                                              omega
    have HK:=Hid.mk' (And.intro ht k)
    have HXE:Hid ((⟨xr,xd,xl,xt,xa,xb⟩:Stp)=stp rs d l∧l≠[]):=⟨hxe,hlne⟩
    have HNF:Hid (bl.length≤1048576):=by have:=ht.len;show _≤_;omega
    clear hxe hlne hlen hbkl hwd hbe hcx hXs hXk ht k
    gi_wp2_with (refine ⟨trivial,?_⟩;gi_at_call 37;refine (CallsIn.inRound _ (callsIn_wide.2 HF.out)).mono ?_;intro e Y hq;obtain ⟨p',bv',bk',hka,hbw⟩:=HK.out.2.foll ⟨by omega,by omega⟩ ⟨by omega,by omega⟩ (by omega) hX4 hq;obtain ⟨vq,_,_,_,he,_⟩:=hq;subst he;have HY:=Hid.mk' (And.intro hka hbw);clear hka hbw)
    refine ⟨trivial,?_⟩
    refine (CallsIn.inRound _ (callsIn_wide.2 (clean_any HY.out.2.tk))).mono ?_
    rintro e Y2 ⟨rfl,hx⟩
    have hx:=hx.symm
    subst hx
    by_cases hbk:bk'=[]
    · have hdc:decide (bk'=[])=true:=by simpa using hbk
      rw [hdc]
      have k2:=HY.out.2
      have hYX:=HY.out.1.bel.size
      obtain ⟨la,lc,hlv⟩:=OwnK.form k2.ow
      obtain ⟨ln,hln⟩:∃ n,bl.length=n:=⟨_,rfl⟩
      rw [hln] at hlv
      subst hlv
      obtain ⟨rst,hrst⟩:∃ r,s.extract p' s.size=r:=⟨_,rfl⟩
      have hpl:=k2.tk.pl
      have hrs:rst.size=s.size - p':=by rw [←hrst];simp [ByteArray.size_extract]
      have hsub:(s.size:Int) - (rst.size:Int)=(p':Int):=by omega
      obtain ⟨dd,hdd⟩:∃ dd,wds d+wds (layd rs d l)=dd:=⟨_,rfl⟩
      have b8:=k2.tk.blk
      rw [hrst,hdd] at b8
      have e1:Y.cell? ⟨W3.heap.size,1,none⟩=some (.string rst):=by rw [cell_of b8];rfl
      have e3:Y.cell? ⟨W3.heap.size,3,none⟩=some (.int .i64 dd):=by rw [cell_of b8];rfl
      have e9:Y.cell? ⟨W3.heap.size+1,0,none⟩=some (.slice la ln lc):=by rw [cell_of k2.bx];rfl
      have es:Y.cell? ⟨w.heap.size+1,0,none⟩=some (.string s):=cell_below y1 k2.be (Nat.le_refl _)
      have HU:Hid (Calls Tryz.prog 39 #[.slice la ln lc,.int .i64 (p':Int),.int .i64 dd] Y fun e w'=>∃ gg cap,e = .returned (.slice (some ⟨gg,0,none⟩) (ln+1) cap)∧OwnK w' W3.heap.size (.slice (some ⟨gg,0,none⟩) (ln+1) cap) (bl++[upB bl p' dd])∧Fr Y w' (fun k=>(Value.slice la ln lc).ownBlock=some k)∧(some gg=(Value.slice la ln lc).ownBlock∨Y.heap.size≤gg)):=upTo_walk la ln lc bl p' dd W3.heap.size Y k2.ow hln (by have:=HNF.out;omega) (by omega)
      have HPP:Hid (bk'=[]∧wds d+wds (layd rs d l)=dd∧p'≤s.size):=⟨hbk,hdd,hpl⟩
      have hp0:(p':Int)≤16384:=by omega
      have hln':=Hid.mk' hln
      clear k2 hrst b8 hdd hbk hdc hpl hrs hln
      gi_wp2_with (refine ⟨trivial,?_⟩;gi_at_call 39;refine (CallsIn.inRound _ (callsIn_wide.2 HU.out)).mono ?_;rintro e Z ⟨gg,cap,rfl,u1,u2,u3⟩;have hbz:Z.heap[W3.heap.size+1]? = some (.cells #[.slice la ln lc] 32 (0,0)):=(u2.block _ (blk_lt HY.out.2.bx) fun e=>(HY.out.2.b2 _ e).2.2.2.2 rfl).trans HY.out.2.bx;have g9:Z.cell? ⟨W3.heap.size+1,0,none⟩=some (.slice la ln lc):=(by rw [cell_of hbz];rfl);have f9:Z.frozen? ⟨W3.heap.size+1,0,none⟩=false:=free_of hbz;have HZ:=Hid.mk' (And.intro u1 (And.intro u2 u3));clear u1 u2 u3 hbz)
      obtain ⟨u1,u2,u3⟩:=HZ.out
      obtain ⟨p1,p2,p3⟩:=HPP.out
      obtain ⟨v1,v2⟩:=HY.out.2.up1 ⟨by omega,by omega⟩ ⟨by omega,by omega⟩ (by omega) (by omega) u1 u2 u3
      obtain ⟨x1,x2⟩:=HXE.out
      have hct:=v2.ct
      rw [p1] at hct
      have hup:=TrB.up HK.out.1 x2 hct.symm
      have hlf:=v2.lf
      rw [p1] at hlf
      have hwl:wds (lefd rs d l)=(s.size:Int) - p':=by rw [←hlf];exact clean_at p3
      have e7:(s.size:Int) - wds (lefd rs d l)=(p':Int):=by omega
      rw [e7,wds_app,p2,←x1] at hup
      refine ⟨HY.out.1.trans v1,_,_,_,_,p',bv',bk',.slice (some ⟨gg,0,none⟩) (ln+1) cap,hup,by have:=v1.bel.size;omega,?_⟩
      rw [←hct,p2] at v2
      rw [wds_app,p2]
      exact v2
    · have hdc:decide (bk'=[])=false:=by simpa using hbk
      rw [hdc]
      have HBN:Hid (bk'≠[]):=hbk
      clear hbk hdc
      gi_wp2
      obtain ⟨x1,x2⟩:=HXE.out
      have k2:=HY.out.2
      have hon:=TrB.on HK.out.1 x2 (fun e=>HBN.out (List.eq_nil_of_length_eq_zero (k2.ct.trans e)))
      rw [←x1] at hon
      refine ⟨HY.out.1,_,_,_,_,p',bv',bk',lv,hon,by have:=HY.out.1.bel.size;omega,?_⟩
      rw [wds_app]
      rw [←x1] at k2
      exact k2
   case hdone=>
    rintro F Wd _ _ ⟨d,l,c,bl,p,bv,bk,lv,q1,q2,q3⟩ _ hK
    have hend:l=[]∧d=(endOf rs s).2:=by
     have e1:=q1.g3
     have e2:=HM.out.end3
     unfold G3 at e1 e2
     rw [e1] at e2
     injection e2 with _ e2
     injection e2 with e3 e4
     exact ⟨e4,e3⟩
    obtain ⟨la,lc,hlv⟩:=OwnK.form q3.ow
    obtain ⟨ln,hln⟩:∃ n,bl.length=n:=⟨_,rfl⟩
    rw [hln] at hlv
    subst hlv
    have e9:Wd.cell? ⟨W3.heap.size+1,0,none⟩=some (.slice la ln lc):=by rw [cell_of q3.bx];rfl
    have HQ3:=Hid.mk' (And.intro q1 (And.intro q3 hend))
    clear q1 q3 hend
    gi_wp2
    go_wp2
    refine ⟨by simp,.inl ⟨_,_,rfl,run_takeDeferred hK,?_⟩⟩
    obtain ⟨q1,q3,h1,h2⟩:=HQ3.out
    subst h1
    subst h2
    have hf:Fr Wd (Wd.putObj (W3.heap.size+2) (.deferred none)) (fun k=>k=W3.heap.size+2):=fr_put _
    refine ⟨.tuple #[.slice la ln lc,.int .i64 0],by simp [results,Tryz.f17,go_sem],(HBB.out.trans (q3.be.mono hw3)).trans (hf.below (fun k e=>by have e:k=W3.heap.size+2:=e;omega) (by omega)),.inr ⟨he,_,bl,c,rfl,Joins.ownsRow_le (own_fr q3.ow hf fun b hb e=>(q3.b2 b hb).2.1 e) hw3,q1⟩⟩
theorem one25 (u:Int) (w:World):Calls Tryz.prog 23 #[.int .i64 u] w fun e w'=>e = .returned (.slice (some ⟨w.heap.size,0,none⟩) 1 1)∧w'=w.alloc (.cells #[.int .i64 u,.int .i64 u] 97):=by
 go_enter Tryz.func23,Tryz.ntmps23
 go_wp2
 go_ret
 exact ⟨rfl,rfl⟩
def rsT:List Rl:=[⟨false,false,0,[],[[(97,97)]],[],[]⟩,⟨false,false,2,[],[[(98,98)]],[],[⟨1,120,0,[]⟩,⟨1,121,0,[]⟩]⟩]
def tC:ByteArray:=⟨#[97,98,99]⟩
structure TLB (W:World) (n:Nat):Prop where
 b0:W.heap[n]? = some (.cells #[.int .i64 97,.int .i64 97] 97 (0,0))
 b1:W.heap[n+1]? = some (.cells #[.slice (some ⟨n,0,none⟩) 1 1] 51 (0,0))
 b2:W.heap[n+2]? = some (.cells #[.int .i64 98,.int .i64 98] 97 (0,0))
 b3:W.heap[n+3]? = some (.cells #[.slice (some ⟨n+2,0,none⟩) 1 1] 51 (0,0))
 b4:W.heap[n+4]? = some (.cells #[.int .i64 1,.int .i64 120,.int .i64 0,.slice none 0 0,.int .i64 1,.int .i64 121,.int .i64 0,.slice none 0 0] 58 (0,0))
 b5:W.heap[n+5]? = some (.cells #[.bool false,.slice none 0 0,.slice (some ⟨n+1,0,none⟩) 1 1,.slice none 0 0,.bool false,.slice none 0 0,.int .i64 0,.bool false,.slice none 0 0,.slice (some ⟨n+3,0,none⟩) 1 1,.slice none 0 0,.bool false,.slice (some ⟨n+4,0,none⟩) 2 2,.int .i64 2] 56 (0,0))
theorem TLB.psr {W:World} {n:Nat} (h:TLB W n):PsR W (.slice (some ⟨n+5,0,none⟩) 2 2) rsT:=by
 refine ⟨_,2,rfl,Nat.le_refl _,.inr ⟨n+5,0,rfl,fun j hj => ?_⟩⟩
 have hj2:j=0∨j=1:=by simp [rsT] at hj;omega
 have h15:=h.b5
 have nl:SR W (.slice none 0 0) []:=⟨none,0,rfl,Nat.le_refl _,.inl rfl⟩
 rcases hj2 with rfl | rfl
 · refine ⟨_,_,_,_,by rw [cell_of h15];rfl,by rw [cell_of h15];rfl,by rw [cell_of h15];rfl,by rw [cell_of h15];rfl,by rw [cell_of h15];rfl,by rw [cell_of h15];rfl,by rw [cell_of h15];rfl,⟨nl,?_,nl,⟨none,0,rfl,Nat.le_refl _,.inl rfl⟩⟩⟩
   refine ⟨_,1,rfl,Nat.le_refl _,.inr ⟨n+1,0,rfl,fun j hj => ?_⟩⟩
   obtain rfl:j=0:=by simp [rsT] at hj;omega
   exact ⟨_,by rw [cell_of h.b1];rfl,rsx_at h.b0⟩
 · refine ⟨_,_,_,_,by rw [cell_of h15];rfl,by rw [cell_of h15];rfl,by rw [cell_of h15];rfl,by rw [cell_of h15];rfl,by rw [cell_of h15];rfl,by rw [cell_of h15];rfl,by rw [cell_of h15];rfl,⟨nl,?_,nl,?_⟩⟩
   · refine ⟨_,1,rfl,Nat.le_refl _,.inr ⟨n+3,0,rfl,fun j hj => ?_⟩⟩
     obtain rfl:j=0:=by simp [rsT] at hj;omega
     exact ⟨_,by rw [cell_of h.b3];rfl,rsx_at h.b2⟩
   · refine ⟨_,2,rfl,Nat.le_refl _,.inr ⟨n+4,0,rfl,fun j hj => ?_⟩⟩
     have hj2:j=0∨j=1:=by simp [rsT] at hj;omega
     rcases hj2 with rfl | rfl
     · exact ⟨.slice none 0 0,by rw [cell_of h.b4];rfl,by rw [cell_of h.b4];rfl,by rw [cell_of h.b4];rfl,by rw [cell_of h.b4];rfl,⟨none,0,rfl,Nat.le_refl _,.inl rfl⟩⟩
     · exact ⟨.slice none 0 0,by rw [cell_of h.b4];rfl,by rw [cell_of h.b4];rfl,by rw [cell_of h.b4];rfl,by rw [cell_of h.b4];rfl,⟨none,0,rfl,Nat.le_refl _,.inl rfl⟩⟩
def trF (rs:List Rl) (n:Int):Nat→List Int→List Int→Nat→List Bk→List Bk
 | 0,_,_,_,bl=>bl
 | k+1,d,l,c,bl=>if c - (stp rs d l).t.toNat+(stp rs d l).b.toNat=0 then trF rs n k (d++layd rs d l) (lefd rs d l) 0 (bl++[upB bl (n - wds (lefd rs d l)) (wds (d++layd rs d l))]) else trF rs n k (d++layd rs d l) (lefd rs d l) (c - (stp rs d l).t.toNat+(stp rs d l).b.toNat) bl
theorem TrB.trF {rs:List Rl} {n:Int} {l0:List Int} {xs:List Stp} {d l:List Int} {c:Nat} {bl:List Bk} (h:TrB rs n l0 xs d l c bl):∀ k,Go.Proofs.trF rs n (xs.length+k) [] l0 0 []=Go.Proofs.trF rs n k d l c bl:=by
 induction h with
 | nil=>intro k;rw [List.length_nil,Nat.zero_add]
 | on h hl hc ih=>
  intro k
  rw [List.length_append,List.length_singleton,Nat.add_assoc,ih,Nat.add_comm 1 k,Go.Proofs.trF,if_neg hc]
 | up h hl hc ih=>
  intro k
  rw [List.length_append,List.length_singleton,Nat.add_assoc,ih,Nat.add_comm 1 k,Go.Proofs.trF,if_pos hc]
def blC:List Bk:=[(0,1,0,0),(1,2,0,2),(2,3,2,3)]
theorem may_C:mayE rsT tC=0:=by decide +kernel
theorem end_C:(endOf rsT tC).1.length=3:=by decide +kernel
theorem tr_C:trF rsT 3 3 [] (intsU (units tC)) 0 []=blC:=by decide +kernel
theorem blocks_C {xs:List Stp} {d l:List Int} {c:Nat} {bl:List Bk} (h:TrB rsT (tC.size:Int) (intsU (units tC)) xs d l c bl) (hx:xs=(endOf rsT tC).1):bl=blC:=by
 have h1:=h.trF 0
 rw [hx,end_C] at h1
 have h2:trF rsT (tC.size:Int) 3 [] (intsU (units tC)) 0 []=blC:=tr_C
 rw [Nat.add_zero,h2] at h1
 exact h1.symm
theorem join_C:Join blC:=by
 intro j hj _
 have:j=0∨j=1∨j=2:=by simp [blC] at hj;omega
 rcases this with rfl | rfl | rfl <;> (refine ⟨rfl,rfl,?_,?_⟩ <;> simp [blC])
theorem acr_C {a b:Int} (h:Acr (bR blC) (bS blC) 0 a b):a=0∧b=1:=by
 have e1:bR blC=[0,0,2,3]:=by unfold bR;rw [if_pos join_C];rfl
 have e2:bS blC=[0,1,2,3]:=by unfold bS;rw [if_pos join_C];rfl
 rw [e1,e2] at h
 rcases h with ⟨e,_⟩ | ⟨_,_,i,i0,i1,i2,i3,i4,i5⟩ | ⟨_,_,i,k,i0,i1,i2,i3,i4,i5,i6,i7⟩
 · rcases e with e | e | e <;> simp at e
 · have:i=1∨i=2∨i=3:=by simp at i1;omega
   rcases this with rfl | rfl | rfl <;> simp at i2
 · have hi:i=0:=by
    rcases Nat.eq_zero_or_pos i with e | e
    · exact e
    · have:=i4 0 e;simp at this
   subst hi
   have hk:k=1:=by
    have:k=0∨k=1∨k=2∨k=3:=by simp at i1;omega
    rcases this with rfl | rfl | rfl | rfl
    · have:=i5 1 (by omega) (by simp);simp at this
    · rfl
    · simp at i3
    · simp at i3
   subst hk
   exact ⟨i6,i7⟩
set_option maxHeartbeats 8000000 in
theorem shown9 (w:World) (hT:Tab w) (hz:0<w.heap.size):Calls Tryz.prog 7 #[] w fun e w'=>e = .returned (.bool true)∧Below w.heap.size w w':=by
 have HBl:Hid (∀ W,Grown w W→TLB W w.heap.size→Calls Tryz.prog 17 #[.agg #[.slice (some ⟨w.heap.size+5,0,none⟩) 2 2],.string ⟨#[97,98,99]⟩] W fun e w'=>∃ a c,e = .returned (.tuple #[.slice a 3 c,.int .i64 0])∧KR w' (.slice a 3 c) blC∧Below W.heap.size W w'):=fun W hg hb=>(blocks_any _ rsT tC W (hT.grown hg) (hb.psr)).mono (by
  rintro e w' ⟨h1,⟨h2,_⟩ | ⟨_,lv,bl,c,rfl,h3,h4⟩⟩
  · exact absurd may_C h2
  · have h5:=blocks_C h4 rfl
    subst h5
    obtain ⟨a,cc,hf⟩:=h3.form
    have hf:lv = .slice a 3 cc:=hf
    subst hf
    exact ⟨a,cc,rfl,h3.kr,h1⟩)
 have HT:Hid (Tab w∧0<w.heap.size):=⟨hT,hz⟩
 clear hT hz
 go_enter Tryz.func7,Tryz.ntmps7
 have HSame:Hid (∀ W a c g,KR W (.slice a 3 c) blC→W.heap[g]? = some (.cells #[.int .i64 0,.int .i64 1,.int .i64 0,.int .i64 0,.int .i64 1,.int .i64 2,.int .i64 0,.int .i64 2,.int .i64 2,.int .i64 3,.int .i64 2,.int .i64 3] 44 (0,0))→Calls Tryz.prog 24 #[.slice a 3 c,.slice (some ⟨g,0,none⟩) 3 3] W fun e w'=>e = .returned (.bool true)∧Grown W w'):=fun W a c g h1 h2=>by
  have hk:KR W (.slice (some ⟨g,0,none⟩) 3 3) blC:=⟨_,3,rfl,Nat.le_refl _,.inr ⟨g,0,rfl,fun j hj=>by
   have:j=0∨j=1∨j=2:=by simp [blC] at hj;omega
   rcases this with rfl | rfl | rfl <;> (refine ⟨?_,?_,?_,?_⟩ <;> (rw [cell_of h2];rfl))⟩⟩
  have:=same_walk a 3 c (some ⟨g,0,none⟩) 3 3 blC blC W h1 hk rfl rfl (by decide)
  simpa using this
 go_wp2_with (first | (go_at_call 23;refine (one25 _ _).mono ?_;rintro e w' ⟨rfl,rfl⟩) | (go_at_call 17;refine (HBl.out _ (by repeat (first | exact Grown.refl _ | refine Grown.alloc ?_ _)) (by constructor;all_goals (repeat (first | (refine alloc_at ?_;simp;done) | refine alloc_up ?_)))).mono ?_;rintro e w1 ⟨a1,c1,rfl,hk1,hb1⟩;have HK1:Hid (KR w1 (.slice a1 3 c1) blC∧Below w.heap.size w w1):=⟨hk1,((Grown.below (w:=w) (by repeat (first | exact Grown.refl _ | refine Grown.alloc ?_ _))).trans (hb1.mono (by simp;omega)))⟩;clear hk1 hb1;have H13:=Hid.mk' (from_any _ blC 0 w1 HK1.out.1 (by decide))) | (go_at_call 13;refine H13.out.mono ?_;rintro e w2 ⟨xa,xb,rfl,hac,hb2⟩;obtain ⟨hxa,hxb⟩:=acr_C hac;subst hxa;subst hxb;have HK2:Hid (KR w2 (.slice a1 3 c1) blC∧Below w.heap.size w w2):=⟨HK1.out.1.below hb2 (Nat.le_refl _),HK1.out.2.trans (hb2.mono HK1.out.2.size)⟩;clear hac hb2) | (go_at_call 24;refine (HSame.out _ _ _ _ (HK2.out.1.grown ((Grown.refl _).alloc _)) (heap_alloc_new _ _)).mono ?_;rintro e w3 ⟨rfl,hg3⟩;have HK3:Hid (Below w.heap.size w w3):=HK2.out.2.trans ((((Grown.refl w2).alloc _).below.trans (hg3.below.mono (by simp))).mono HK2.out.2.size);clear hg3))
 go_ret
 exact ⟨rfl,HK3.out⟩
end Go.Proofs
