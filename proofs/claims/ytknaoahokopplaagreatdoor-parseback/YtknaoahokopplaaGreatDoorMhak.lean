/-
  Several texts in one (V5k V6k V7k V8k V9k Wak).
-/
import Derived.Test.YtknaoahokopplaaGreatDoorMgzk
import Derived.Shelf.Abstract
import Derived.Shelf.RegionOpen
import Derived.WalkKit
import Derived.WalkSpells
import Derived.WalkLawsBesides
import Derived.BigQuiet
import Derived.Deep.QuietTactic
import Derived.Deep.LoopGhost
import Derived.Lib.OthersKept
import Derived.ScopeJumps
import Derived.WalkMore
import Derived.Maps.AppendAt
import Derived.Lib.SmallJoins
import Derived.Test.YtknaoahokopplaaGreatDoorMgdk
namespace Go.Proofs
open Go.RowKit Go.Shelf
theorem okG_tail (d:Nat) (e:Int) {ts:List Tok} (h:GdL ts):OkG (fun x=>ckRw (ckI (d+1+1) 386) x.1=none∧0≤x.2∧x.2≤(x.1.length:Int)) (tailT e ts):=by
 unfold tailT resultT
 refine (okG_row e 386 (fun _=>okG_piece d e) 512 h).bind fun x r hx hr => ?_
 split
 · refine (okG_row e 386 (fun _=>okG_piece d e) (512 - x.length) hr.tail).bind fun y r2 hy hr2 => .ok ⟨ckRw_of ?_ fun i hi => ?_,by simp,by simp;omega⟩ hr2
   · have:=hx.1
     have:=hy.1
     simp only [List.length_append]
     omega
   · exact (List.mem_append.1 hi).elim (hx.2 i) (hy.2 i)
 · exact .ok ⟨ckRw_of hx.1 hx.2,by simp,by simp⟩ hr
theorem okG_ante (d:Nat) (e:Int) (bg:Bool) (x:List It) (hx:ckRw (ckI (d+1) 62) x=none) {ts:List Tok} (h:GdL ts):OkG (fun p=>ckRw (ckI (d+1) 62) p.1=none∧ckRw (ckI (d+1) 62) p.2=none) (anteT e bg x ts):=by
 unfold anteT
 split
 · exact (okG_want e 12 h).bind fun _ r _ hr=>(okG_sides d e hr).bind fun y r2 hy hr2 => .ok ⟨hx,hy⟩ hr2
 · exact .ok ⟨ckRw_of (by simp) (by simp),hx⟩ h
theorem okG_post (d:Nat) (e:Int) {ts:List Tok} (h:GdL ts):OkG (fun p=>ckRw (ckI (d+1) 62) p.1=none) (postT e ts):=by
 unfold postT
 split
 · exact (okG_sides d e h.tail).bind fun po r hp hr => .ok hp (hr.pass 16)
 · exact .ok (ckRw_of (by simp) (by simp)) h
theorem ckLn_of {D:Nat} {l:Ln} (h:stL (lnM l)=true) (h1:ckRw (ckI D 62) l.ante=none) (h2:ckRw (ckI D 62) l.key=none) (h3:ckRw (ckI D 62) l.post=none) (h4:ckRw (ckI D 386) l.res=none):ckLn D l=none:=by
 unfold ckLn
 rw [if_pos h,h1,h2,h3,h4]
 rfl
theorem okG_rule (d:Nat) (e:Int) {ts:List Tok} (h:GdL ts):OkG (fun l=>ckLn (d+1+1) l=none) (ruleT e ts):=by
 unfold ruleT
 refine (okG_sides (d+1) e (h.pass 15)).bind fun x r1 hx hr1=>(okG_ante (d+1) e _ x hx hr1).bind fun ak r2 hak hr2=>(okG_post (d+1) e hr2).bind fun pe r3 hpe hr3=>(okG_want e 10 hr3).bind fun _ r4 _ hr4=>(okG_tail d e hr4).bind fun rc r5 hrc hr5 => .ok (ckLn_of ?_ hak.1 hak.2 hpe hrc.1) hr5
 have h1:=hrc.2.1
 have h2:=hrc.2.2
 simp [stL,lnM,emptyB,h1,h2]
theorem okG_def (d:Nat) (e:Int) {t:Tok} (ht:GoodK t) (hw:which t=36) {ts:List Tok} (h:GdL ts):OkG (fun l=>ckLn (d+1+1) l=none) (defT e t ts):=by
 unfold defT
 refine (okG_want e 21 h).bind fun _ r _ hr=>(okG_side (d+1) e 62 (.inl rfl) hr).bind fun x r2 hx hr2 => .ok (ckLn_of ?_ (ckRw_of (by simp) (by simp)) (ckRw_of (by simp) (fun i hi=>by simp at hi;subst hi;exact hx)) (ckRw_of (by simp) (by simp)) (ckRw_of (by simp) (by simp))) hr2
 have hn:=ht.nm (.inl hw)
 simp [stL,lnM,noRuleB,hn]
theorem okG_some (d:Nat) (e:Int):∀ {ts:List Tok},GdL ts→OkG (fun l=>ckLn (d+1+1) l=none) (someT e ts)
 | [],h=>okG_rule d e h
 | t::r,h=>by
  unfold someT
  simp only
  split
  · refine .ok (ckLn_of ?_ (ckRw_of (by simp) (by simp)) (ckRw_of (by simp) (by simp)) (ckRw_of (by simp) (by simp)) (ckRw_of (by simp) (by simp))) h.tail
    simp [stL,lnM,noRuleB,emptyB]
  · split
    · rename_i hw
      exact okG_def d e (h t List.mem_cons_self) hw.1 h.tail
    · exact okG_rule d e h
theorem okG_line (d:Nat) (e:Int) {ts:List Tok} (h:GdL ts):OkG (fun l=>ckLn (d+1+1) l=none) (lineT e ts):=by
 unfold lineT
 exact (okG_some d e h).bind fun l r hl hr=>(okG_want e 11 hr).bind fun _ r2 _ hr2 => .ok hl hr2
theorem okG_lines (d:Nat) (e:Int):∀ (f:Nat) {ts:List Tok},GdL ts→OkG (fun ls=>∀ l∈ls,ckLn (d+1+1) l=none) (linesT e f ts)
 | 0,_,h => .ok (by simp) h
 | f+1,ts,h=>by
  rw [linesT]
  split
  · exact .ok (by simp) h
  · refine (okG_line d e h).bind fun l r hl hr=>(okG_lines d e f hr).bind fun ls r2 hls hr2 => .ok (fun x hx => ?_) hr2
    rcases List.mem_cons.1 hx with rfl | hx
    · exact hl
    · exact hls x hx
theorem read_let (d:Nat) {e:Int} {f:Nat} {ts:List Tok} {ls:List Ln} {r:List Tok} (h:GdL ts) (hl:linesT e f ts = .ok ls r):ckAll (d+1+1) ls=0:=by
 have:=(okG_lines d e f h ls r hl).1
 unfold ckAll
 rw [List.findSome?_eq_none_iff.2 this]
 rfl
end Go.Proofs
namespace Go.Proofs
open Go.RowKit Go.Shelf
theorem wd_ge0 (u:Int):0≤wd u:=by
 unfold wd Lib.runeLen
 repeat' split
 all_goals omega
theorem val10_ge:∀ (l:List UInt8) (a:Nat),a≤val10 a l
 | [],a=>Nat.le_refl _
 | c::l,a=>by
  have:=val10_ge l (a*10+(c.toNat - 48))
  show a≤val10 (a*10+(c.toNat - 48)) l
  omega
theorem nameOk_lit (x:List UInt8) (h:∀ c∈x,isNm c=true) (h1:1≤x.length) (h2:x.length≤32) (s:ByteArray) (hs:s.data.toList=x):nameOk s=true:=by
 have hz:s.size=x.length:=by rw [←hs];exact Array.length_toList.symm
 unfold nameOk
 rw [hs,hz]
 simp only [Bool.and_eq_true,List.all_eq_true,decide_eq_true_eq]
 exact ⟨h,h1,h2⟩
theorem ext_one (x:List UInt8) (i j:Nat):((⟨x.toArray⟩:ByteArray).extract i j).data.toList=(x.drop i).take (j - i):=by
 rw [ext_any]
theorem TokS.goodK {L:List UInt8} {fresh:Bool} {k:Int} {l:Nat} {u:Int} {t:List UInt8} {n:Int} (h:TokS L fresh k l u t n) (a b:Int):GoodK ⟨k,a,b,u,⟨t.toArray⟩,n⟩:=by
 have sz:∀ x:List UInt8,(⟨x.toArray⟩:ByteArray).size=x.length:=fun x=>size_lit x
 have hd:∀ x:List UInt8,byteAt ⟨x.toArray⟩ 0=((x.getD 0 0).toNat:Int):=fun x=>by simp [byteAt,List.getD_eq_getElem?_getD]
 have unit:∀ (u:Int),0<wd u→GoodK ⟨1,a,b,u,⟨[].toArray⟩,0⟩:=fun u hu=>
  ⟨fun _=>hu,fun e=>by simp [which] at e,fun e=>by simp [which] at e⟩
 cases h with
 | var m h0 hm hm0 h32=>
  have h1:=spanN_le isNm (L.drop 1)
  rw [hm,List.length_drop] at h1
  have hw:which ⟨2,a,b,0,⟨(L.take (1+m)).toArray⟩,0⟩=36:=by
   unfold which
   rw [if_pos rfl,hd,List.getD_eq_getElem?_getD,List.getElem?_take,if_pos (by omega),h0]
   rfl
  refine ⟨fun e=>by rw [hw] at e;omega,fun _ => ?_,fun e=>by rw [hw] at e;omega⟩
  unfold bareN
  rw [hw,if_neg (by decide)]
  have hl:((L.take (1+m)).drop 1).take ((⟨(L.take (1+m)).toArray⟩:ByteArray).size - 1)=(L.drop 1).take (spanN isNm (L.drop 1)):=by
   rw [sz,hm,List.length_take,List.drop_take,List.take_take]
   congr 1
   omega
  refine nameOk_lit _ (take_span isNm (L.drop 1)) ?_ ?_ _ (by rw [ext_one];exact hl)
  · rw [List.length_take,List.length_drop,hm];omega
  · rw [List.length_take,List.length_drop,hm];omega
 | cls m h0 h1 hn hn0 h32 h2 h3=>
  have h4:=(List.getElem?_eq_some_iff.1 h3).1
  have hw:which ⟨2,a,b,0,⟨((L.drop 1).take (m+2)).toArray⟩,0⟩=58:=by
   unfold which
   rw [if_pos rfl,hd,List.getD_eq_getElem?_getD,List.getElem?_take,if_pos (by omega),List.getElem?_drop,h1]
   rfl
  refine ⟨fun e=>by rw [hw] at e;omega,fun _ => ?_,fun e=>by rw [hw] at e;omega⟩
  unfold bareN
  rw [hw,if_pos rfl]
  have hl:(((L.drop 1).take (m+2)).drop 1).take ((⟨((L.drop 1).take (m+2)).toArray⟩:ByteArray).size - 1 - 1)=(L.drop 2).take (spanN isNm (L.drop 2)):=by
   rw [sz,hn,List.length_take,List.length_drop,List.drop_take,List.take_take,List.drop_drop]
   congr 1
   omega
  refine nameOk_lit _ (take_span isNm (L.drop 2)) ?_ ?_ _ (by rw [ext_one];exact hl)
  · rw [List.length_take,List.length_drop,hn];omega
  · rw [List.length_take,List.length_drop,hn];omega
 | sgn i c h0 hi=>
  have:=(sgn_bound c).1
  have h2:¬ ((10:Int)+i=2):=by omega
  refine ⟨fun e => ?_,fun e => ?_,fun e => ?_⟩
  all_goals
   unfold which at e
   simp only [h2,if_false] at e
   omega
 | cpy m v h0 hn hn0 h9 hc hv=>
  have hw:which ⟨3,a,b,0,⟨[].toArray⟩,n⟩=3:=rfl
  refine ⟨fun e=>by rw [hw] at e;omega,fun e=>by rw [hw] at e;omega,fun _ => ?_⟩
  have hlen:=spanN_le isDg (L.drop 1)
  have hdg:∀ c∈(L.drop 1).take m,isDg c=true:=by rw [←hn];exact take_span isDg (L.drop 1)
  obtain ⟨d,x,hx⟩:∃ d x,(L.drop 1).take m=d::x:=by
   cases hq:(L.drop 1).take m with
   | nil=>
    have:=congrArg List.length hq
    rw [List.length_take] at this
    simp only [List.length_nil] at this
    omega
   | cons d x=>exact ⟨d,x,rfl⟩
  have hxl:(d::x).length=m:=by rw [←hx,List.length_take];omega
  have hf:=val10_fits (d::x) 0 (by rw [←hx];exact hdg)
  rw [hxl] at hf
  have hp:10 ^ m≤10 ^ 9:=Nat.pow_le_pow_right (by decide) h9
  have hiv:=int_val (d::x) (by simp) (by rw [←hx];exact hdg) (by omega) (by omega)
  rw [hx,hiv] at hv
  injection hv with hv
  have hd0:d.toNat≠48∧48≤d.toNat:=by
   have h1:L[1]? = some d:=by
    have:((L.drop 1).take m)[0]? = some d:=by rw [hx];rfl
    rw [List.getElem?_take,if_pos hn0,List.getElem?_drop] at this
    exact this
   have h2:=hdg d (by rw [hx];simp)
   refine ⟨fun e=>hc ?_,?_⟩
   · rw [h1]
     congr 1
     exact UInt8.toNat_inj.1 e
   · simp [isDg] at h2
     exact h2.1
  have hge:d.toNat - 48≤val10 0 (d::x):=by
   have:=val10_ge x (0*10+(d.toNat - 48))
   show _≤val10 (0*10+(d.toNat - 48)) x
   omega
  subst hv
  unfold cpB
  simp only [Bool.and_eq_true,decide_eq_true_eq]
  omega
 | esx m v h0 h1 h2 hn hn0 h6 hc hm hh hw=>exact unit _ (by have:=wd_ge0 (v:Int);omega)
 | esb m v h0 h1 h2 hn hn0 h6 hc hm hl hh=>exact unit _ (by rw [wd_1 (.inr (by omega))];decide)
 | esp c h0 h1 hx hb h32 h126 hlt hdg=>exact unit _ (by rw [wd_1 (.inl (by omega))];decide)
 | thn hf he=>
  have hw:which ⟨2,a,b,0,⟨[116,104,101,110].toArray⟩,0⟩=116:=by
   unfold which
   rw [if_pos rfl,hd]
   rfl
  exact ⟨fun e=>by rw [hw] at e;omega,fun e=>by rw [hw] at e;omega,fun e=>by rw [hw] at e;omega⟩
 | bar c h0 h36 hi h64 h92 hf h1 h2 h3 hr=>exact unit _ (by rw [wd_uAt];have:=uw_pos ⟨L.toArray⟩ 0;omega)
theorem Run.fit {s:ByteArray} (hs:s.size≤maxLen) {p:Nat} {fresh:Bool} {toks:List Tok} {fa:Nat} {fe:Int} (h:Run s p fresh toks fa fe):GdL toks:=by
 induction h with
 | fin=>exact fun t ht=>by cases ht
 | bad=>exact fun t ht=>by cases ht
 | @step p fresh q k u l t n toks fa fe hq hlt hb h0 hl hr ih=>
  intro x hx
  rcases List.mem_cons.1 hx with rfl | hx
  · have hz:(s.extract q s.size).size=s.size - q:=by simp
    have:=(Tells.tokS (by rw [hz];omega) (by rw [hz];omega) hb).goodK (q:Int) (l:Int)
    rwa [back_arr] at this
  · exact ih x hx
end Go.Proofs
namespace Go.Proofs
open Go.RowKit Go.Shelf
def Bd (e:Int) (ts:List Tok):Prop:=∀ t∈ts,0≤t.a∧t.a≤e
theorem Bd.tail {e:Int} {ts:List Tok} (h:Bd e ts):Bd e ts.tail:=fun t ht=>h t (List.mem_of_mem_tail ht)
theorem Bd.pass {e:Int} {ts:List Tok} (h:Bd e ts) (n:Int):Bd e (passT n ts).2:=by
 unfold passT
 split
 · exact h.tail
 · exact h
theorem Bd.at {e:Int} {ts:List Tok} (he:0≤e) (h:Bd e ts):0≤atOf e ts∧atOf e ts≤e:=by
 cases ts with
 | nil=>exact ⟨he,Int.le_refl _⟩
 | cons t r=>exact h t List.mem_cons_self
structure InB {α:Type} (e:Int) (x:Res α):Prop where
 ok:∀ y r,x = .ok y r→Bd e r
 no:∀ a c,x = .no a c→0≤a∧a≤e
theorem InB.mk_ok {α:Type} {e:Int} {y:α} {r:List Tok} (h:Bd e r):InB e (.ok y r):=⟨fun _ _ k=>by obtain ⟨_,rfl⟩:=Res.ok.inj k;exact h,fun _ _ k=>by cases k⟩
theorem InB.mk_no {α:Type} {e a c:Int} (h:0≤a∧a≤e):InB e (.no a c:Res α):=⟨fun _ _ k=>(by cases k),fun _ _ k=>by obtain ⟨rfl,_⟩:=Res.no.inj k;exact h⟩
theorem InB.bind {α β:Type} {e:Int} {x:Res α} {f:α→List Tok→Res β} (h:InB e x) (k:∀ a r,Bd e r→InB e (f a r)):InB e (x.bind f):=by
 cases x with
 | ok y r=>exact k y r (h.ok y r rfl)
 | no a c=>exact .mk_no (h.no a c rfl)
section
variable {e:Int} (he:0≤e)
include he
theorem inB_want (n:Int) {ts:List Tok} (h:Bd e ts):InB e (wantT e n ts):=by
 unfold wantT
 split
 · exact .mk_ok h.tail
 · exact .mk_no (h.at he)
theorem inB_row (may:Nat) {item:List Tok→Res It} (hi:∀ ts,Bd e ts→InB e (item ts)):∀ (d:Nat) {ts:List Tok},Bd e ts→InB e (rowT e may item d ts)
 | 0,ts,h=>by
  rw [rowT]
  split
  · exact .mk_no (h.at he)
  · exact .mk_ok h
 | d+1,ts,h=>by
  rw [rowT]
  split
  · exact (hi ts h).bind fun x r hr=>(inB_row may hi d hr).bind fun xs r2 hr2 => .mk_ok hr2
  · exact .mk_ok h
theorem inB_item (may:Nat) {sets:List Tok→Res (List It)} {pairs:List Tok→Res It} (hs:∀ ts,Bd e ts→InB e (sets ts)) (hp:∀ ts,Bd e ts→InB e (pairs ts)) {ts:List Tok} (h:Bd e ts):InB e (itemT e may sets pairs ts):=by
 cases ts with
 | nil=>exact .mk_no ⟨he,Int.le_refl _⟩
 | cons t r=>
  have ht:=h t List.mem_cons_self
  have hr:Bd e r:=h.tail
  rw [itemT]
  split
  · unfold restT
    split
    · split
      · cases hrt:r.tail with
        | nil=>exact .mk_no ⟨he,Int.le_refl _⟩
        | cons t2 r2=>
         have hr2:Bd e (t2::r2):=by rw [←hrt];exact hr.tail
         rw [upToT]
         split
         · split
           · exact .mk_ok hr2.tail
           · exact .mk_no ht
         · exact .mk_no (hr2 t2 List.mem_cons_self)
      · exact .mk_ok hr
    · exact .mk_ok hr
    · exact .mk_ok hr
    · exact .mk_ok hr
    · exact (hs _ (hr.pass 15)).bind fun ps r2 hr2=>(inB_want he 19 hr2).bind fun _ r3 hr3 => .mk_ok hr3
    · split
      · exact (hp _ hr.tail).bind fun x r2 hr2 => .mk_ok hr2
      · exact .mk_ok hr
  · exact .mk_no ht
theorem inB_noRow (ts:List Tok) (_:Bd e ts):InB e (noRow ts) := .mk_no ⟨Int.le_refl _,he⟩
theorem inB_noItem (ts:List Tok) (_:Bd e ts):InB e (noItem ts) := .mk_no ⟨Int.le_refl _,he⟩
theorem inB_part (ts:List Tok) (h:Bd e ts):InB e (partT e ts):=inB_item he 78 (inB_noRow he) (inB_noItem he) h
theorem inB_parts (ts:List Tok) (h:Bd e ts):InB e (partsT e ts):=inB_row he 78 (inB_part he) 512 h
theorem inB_side (may:Nat) (ts:List Tok) (h:Bd e ts):InB e (sideT e may ts):=inB_item he may (inB_parts he) (inB_noItem he) h
theorem inB_piece (ts:List Tok) (h:Bd e ts):InB e (pieceT e ts):=inB_item he 386 (inB_noRow he) (inB_side he 60) h
theorem inB_sides (ts:List Tok) (h:Bd e ts):InB e (sidesT e ts):=inB_row he 62 (inB_side he 62) 512 h
theorem inB_tail (ts:List Tok) (h:Bd e ts):InB e (tailT e ts):=by
 unfold tailT resultT
 refine (inB_row he 386 (inB_piece he) 512 h).bind fun x r hr => ?_
 split
 · exact (inB_row he 386 (inB_piece he) _ hr.tail).bind fun y r2 hr2 => .mk_ok hr2
 · exact .mk_ok hr
theorem inB_ante (bg:Bool) (x:List It) (ts:List Tok) (h:Bd e ts):InB e (anteT e bg x ts):=by
 unfold anteT
 split
 · exact (inB_want he 12 h).bind fun _ r hr=>(inB_sides he r hr).bind fun y r2 hr2 => .mk_ok hr2
 · exact .mk_ok h
theorem inB_post (ts:List Tok) (h:Bd e ts):InB e (postT e ts):=by
 unfold postT
 split
 · exact (inB_sides he _ h.tail).bind fun po r hr => .mk_ok (hr.pass 16)
 · exact .mk_ok h
theorem inB_rule (ts:List Tok) (h:Bd e ts):InB e (ruleT e ts):=by
 unfold ruleT
 exact (inB_sides he _ (h.pass 15)).bind fun x r1 h1=>(inB_ante he _ x r1 h1).bind fun ak r2 h2=>(inB_post he r2 h2).bind fun pe r3 h3=>(inB_want he 10 h3).bind fun _ r4 h4=>(inB_tail he r4 h4).bind fun rc r5 h5 => .mk_ok h5
theorem inB_def (t:Tok) (ts:List Tok) (h:Bd e ts):InB e (defT e t ts):=by
 unfold defT
 exact (inB_want he 21 h).bind fun _ r hr=>(inB_side he 62 r hr).bind fun x r2 hr2 => .mk_ok hr2
theorem inB_some:∀ (ts:List Tok),Bd e ts→InB e (someT e ts)
 | [],h=>inB_rule he [] h
 | t::r,h=>by
  unfold someT
  simp only
  split
  · exact .mk_ok h.tail
  · split
    · exact inB_def he t r h.tail
    · exact inB_rule he (t::r) h
theorem inB_line (ts:List Tok) (h:Bd e ts):InB e (lineT e ts):=by
 unfold lineT
 exact (inB_some he ts h).bind fun l r hr=>(inB_want he 11 hr).bind fun _ r2 hr2 => .mk_ok hr2
theorem inB_lines:∀ (f:Nat) (ts:List Tok),Bd e ts→InB e (linesT e f ts)
 | 0,_,h => .mk_ok h
 | f+1,ts,h=>by
  rw [linesT]
  split
  · exact .mk_ok h
  · exact (inB_line he ts h).bind fun l r hr=>(inB_lines f r hr).bind fun ls r2 hr2 => .mk_ok hr2
end
theorem Run.places {s:ByteArray} {p:Nat} {fresh:Bool} {toks:List Tok} {fa:Nat} {fe:Int} (h:Run s p fresh toks fa fe):Bd s.size toks:=by
 induction h with
 | fin=>exact fun t ht=>by cases ht
 | bad=>exact fun t ht=>by cases ht
 | @step p fresh q k u l t n toks fa fe hq hlt hb h0 hl hr ih=>
  intro x hx
  rcases List.mem_cons.1 hx with rfl | hx
  · constructor
    · show (0:Int)≤(q:Int)
      omega
    · show (q:Int)≤(s.size:Int)
      omega
  · exact ih x hx
theorem Run.fault {s:ByteArray} {p:Nat} {fresh:Bool} {toks:List Tok} {fa:Nat} {fe:Int} (h:Run s p fresh toks fa fe):fa≤s.size:=by
 induction h with
 | fin=>exact Nat.zero_le _
 | bad hq hlt=>omega
 | step _ _ _ _ _ _ ih=>exact ih
end Go.Proofs
namespace Go.Proofs
open Go.RowKit Go.Shelf
theorem parse_at (s:ByteArray):(∃ fa fe,PNo s fa fe∧0≤fa∧fa≤(s.size:Int))∨(s.size≤32768∧∃ toks fa ls r,Run s 0 true toks fa 0∧toks.length≤32768∧linesT s.size toks.length toks = .ok ls r∧PYes s ls∧∀ d,ckAll (d+1+1) ls=0):=by
 by_cases hs:s.size≤32768
 · have hz:s.size≤maxLen:=by unfold maxLen;omega
   obtain ⟨toks,fa,fe,h1,_,_⟩:=scan_both s hs
   have hl:=run_len h1
   have hg:=h1.good hz
   by_cases he:fe=0
   · subst he
     cases hS:linesT s.size toks.length toks with
     | ok ls r=>exact .inr ⟨hs,toks,fa,ls,r,h1,by omega,hS,parse_yes s hs toks fa h1 (by omega) hS,fun d=>read_let d (h1.fit hz) hS⟩
     | no a c=>
      refine .inl ⟨a,c,⟨nz_lines _ _ _ a c hS,fun w=>(parse_run s toks fa 0 hs h1 hg (by omega) w).mono ?_⟩,(inB_lines (by omega) _ toks h1.places).no a c hS⟩
      intro x w' hx
      unfold PO at hx
      rw [if_pos rfl,hS] at hx
      exact ⟨hx.2,hx.1⟩
   · have hf:=h1.fault
     refine .inl ⟨fa,fe,⟨he,fun w=>(parse_run s toks fa fe hs h1 hg (by omega) w).mono ?_⟩,by omega,by omega⟩
     intro x w' hx
     unfold PO at hx
     rw [if_neg he] at hx
     exact hx
 · exact .inl ⟨32768,2,⟨by decide,parse_long s (by omega)⟩,by omega,by omega⟩
end Go.Proofs
namespace Go.Proofs
open Go.RowKit Go.Shelf
structure TW where
 (k u:Int) (t:ByteArray) (n:Int)
def IsTW (t:Tok) (x:TW):Prop:=t.k=x.k∧t.u=x.u∧t.t=x.t∧t.n=x.n
inductive RunL:List UInt8→Bool→List TW→Prop
 | fin {fresh:Bool} : RunL [] fresh []
 | ws {c:UInt8} {L:List UInt8} {fresh:Bool} {ts:List TW} (h:isWs c=true) (hr:RunL L fresh ts):RunL (c::L) fresh ts
 | tok {w rest:List UInt8} {fresh:Bool} {k u:Int} {t:List UInt8} {n:Int} {ts:List TW} (h0:pastN false (w++rest)=0) (hw:0<w.length) (hT:TokS (w++rest) fresh k w.length u t n) (hr:RunL rest (decide (k=11)) ts):RunL (w++rest) fresh (⟨k,u,⟨t.toArray⟩,n⟩::ts)
theorem Run.past {s:ByteArray} {p p':Nat} {fresh:Bool} {toks:List Tok} {fa:Nat} {fe:Int} (hp:p'+pastN false (s.data.toList.drop p')=p+pastN false (s.data.toList.drop p)) (h:Run s p' fresh toks fa fe):Run s p fresh toks fa fe:=by
 cases h with
 | fin h=>exact .fin (by omega)
 | bad hq hlt hb he=>exact .bad (by omega) hlt hb he
 | step hq hlt hb h0 hl hr=>exact .step (by omega) hlt hb h0 hl hr
theorem drop_cons_next {L:List UInt8} {p:Nat} {c:UInt8} {R:List UInt8} (h:L.drop p=c::R):L.drop (p+1)=R:=by
 rw [←List.drop_drop,h]
 rfl
theorem RunL.run {s:ByteArray} (hs:s.size≤maxLen) {L:List UInt8} {fresh:Bool} {ts:List TW} (h:RunL L fresh ts):∀ {p:Nat},p≤s.size→s.data.toList.drop p=L→∃ toks,Run s p fresh toks 0 0∧All2 IsTW toks ts:=by
 have hsz:s.data.toList.length=s.size:=by rw [Array.length_toList];rfl
 induction h with
 | fin=>
  intro p hp hd
  have hl:=congrArg List.length hd
  rw [List.length_drop,hsz] at hl
  simp only [List.length_nil] at hl
  exact ⟨[],.fin (by rw [hd];simp [pastN];omega),trivial⟩
 | @ws c L fresh ts hc hr ih=>
  intro p hp hd
  have hl:=congrArg List.length hd
  rw [List.length_drop,hsz] at hl
  simp only [List.length_cons] at hl
  have hd1:=drop_cons_next hd
  obtain ⟨toks,h1,h2⟩:=ih (p:=p+1) (by omega) hd1
  refine ⟨toks,h1.past ?_,h2⟩
  rw [hd1,hd,pastN_ws hc]
  omega
 | @tok w rest fresh k u t n ts h0 hw hT hr ih=>
  intro p hp hd
  have hl:=congrArg List.length hd
  rw [List.length_drop,hsz,List.length_append] at hl
  have hd1:s.data.toList.drop (p+w.length)=rest:=by
   rw [←List.drop_drop,hd,List.drop_left]
  obtain ⟨toks,h1,h2⟩:=ih (p:=p+w.length) (by omega) hd1
  have hx:(s.extract p s.size).data.toList=w++rest:=by rw [ext_drop,hd]
  have hxz:(s.extract p s.size).size=s.size - p:=ext_size s p
  have hb:=(TokS.tells (r:=s.extract p s.size) (by omega) (by rw [hx];exact hT)).1
  exact ⟨⟨k,p,w.length,u,⟨t.toArray⟩,n⟩::toks,.step (q:=p) (by rw [hd,h0];rfl) (by omega) hb hw (by omega) h1,⟨rfl,rfl,rfl,rfl⟩,h2⟩
theorem RunL.blank {L:List UInt8} {fresh:Bool} {ts:List TW} (h:RunL L fresh ts):RunL (32::L) fresh ts := .ws (by decide) h
theorem RunL.line {L:List UInt8} {fresh:Bool} {ts:List TW} (h:RunL L fresh ts):RunL (10::L) fresh ts := .ws (by decide) h
theorem RunL.sign {L:List UInt8} {fresh:Bool} {ts:List TW} (i:Nat) (c:UInt8) (hi:Lib.indexByte sgnL c=i) (hc:isWs c=false∧c.toNat≠35) (h91:c=91→L[0]? ≠ some 58) (h36:c=36→spanN isNm L=0) (h:RunL L (decide ((10:Int)+i=11)) ts):RunL (c::L) fresh (⟨10+i,0,⟨#[]⟩,0⟩::ts):=
 RunL.tok (w:=[c]) (t:=[]) (pastN_stop hc.1 hc.2 _) (by simp) (.sgn i c rfl hi (fun e=>by simpa using h91 e) (fun e=>by simpa using h36 e)) h
end Go.Proofs
namespace Go.Proofs
open Go.RowKit Go.Shelf
set_option maxRecDepth 100000
attribute [local go_sem] Oper.semAt_some
def hexB (u:Nat):ByteArray:=⟨(hexU u).toArray⟩
theorem hexB_size (u:Nat):(hexB u).size≤6:=by
 have:=hexF_len 6 u
 simp [hexB,hexU,ByteArray.size,Lib.toUpperA]
 omega
set_option maxHeartbeats 1000000 in
theorem write_hex (u:Nat) (n:Int) (w:World) (hT:TabB w) (hwd:wd u=n) (hn:n≠0) (hu:u≤1114111) (hrs:rsv u=false) (h:u<32∨126<u):Calls Tryz.prog 24 #[.int .i64 u] w fun e w'=>e = .returned (.tuple #[.string (⟨#[92,120,123]⟩++hexB u++⟨#[125]⟩),.int .i64 0])∧Below w.heap.size w w':=by
 have d0:(n == 0)=false:=by simpa using hn
 have d1:decide ((1114111:Int)<(u:Int))=false:=by simp;omega
 have d2:((u:Int) == 32)=false:=by simp;omega
 have HC:Hid (∀ W,TabB W→Calls Tryz.prog 49 #[.int .i64 u] W fun e w'=>e = .returned (.string (hexB u))∧Below W.heap.size W w'):=fun W hW=>capitals_any u W hW hu
 have hz:=hexB_size u
 generalize hexB u=x at HC hz ⊢
 have hx1:((⟨#[92,120,123]⟩:ByteArray)++x).size=3+x.size:=by rw [ByteArray.size_append];rfl
 rcases h with h | h
 · have d3:decide ((u:Int)<32)=true:=by simp;omega
   go_enter Tryz.func24,Tryz.ntmps24
   go_wp2_with (first | (go_at_call 48;refine (width_any _ _).mono ?_;rintro e w' ⟨rfl,rfl⟩;rw [hwd]) | (go_at_call 50;refine (reserved_any _ _).mono ?_;rintro e w' ⟨rfl,rfl⟩;rw [hrs]))
   refine (HC.out _ hT).mono ?_
   rintro e w1 ⟨rfl,hb⟩
   go_wp2
   go_ret2
   exact ⟨rfl,hb⟩
 · have d3:decide ((u:Int)<32)=false:=by simp;omega
   have d4:decide ((126:Int)<(u:Int))=true:=by simp;omega
   go_enter Tryz.func24,Tryz.ntmps24
   go_wp2_with (first | (go_at_call 48;refine (width_any _ _).mono ?_;rintro e w' ⟨rfl,rfl⟩;rw [hwd]) | (go_at_call 50;refine (reserved_any _ _).mono ?_;rintro e w' ⟨rfl,rfl⟩;rw [hrs]))
   refine (HC.out _ hT).mono ?_
   rintro e w1 ⟨rfl,hb⟩
   go_wp2
   go_ret2
   exact ⟨rfl,hb⟩
end Go.Proofs
