/-
  Several texts in one (Tck Tdk Jak).
-/
import Derived.Test.YtknaoahokopplaaGreatDoorMgmk
import Derived.Test.YtknaoahokopplaaGreatDoorMgbk
namespace Go.Proofs
open Go.RowKit Go.Shelf
set_option maxRecDepth 100000
def Beg (r:ByteArray) (fresh:Bool):Prop:=(∃ e0,e0≠0∧Tells 47 #[.string r,.bool fresh] 0 0 0 0 ⟨#[]⟩ 0 e0)∨(∃ k l u t n,TokS r.data.toList fresh k l u t n)
theorem beg_class (r:ByteArray) (hs:r.size≤maxLen) (h0:0<r.size) (fresh:Bool) (h91:r[0].toNat=91) (hp:Lib.hasPrefix r.data.toList [91,58]=true):Beg r fresh:=by
 have h2:2≤r.size:=by have:=pre_len hp;simpa using this
 obtain ⟨n,hn⟩:∃ n,spanN isNm (r.extract 2 r.size).data.toList=n:=⟨_,rfl⟩
 obtain ⟨q,hq⟩:∃ q,r.extract (2+n) r.size=q:=⟨_,rfl⟩
 have hle:=span2_le r n h2 hn
 have hqz:q.size=r.size - (2+n):=by rw [←hq,ext_size]
 have bad:∀ e0:Int,e0≠0→Tells 89 #[.string r] 0 0 0 0 ⟨#[]⟩ 0 e0→Beg r fresh:=fun e0 he hT => .inl ⟨e0,he,first_class r fresh 0 0 0 0 ⟨#[]⟩ 0 e0 hs h0 h91 hp hT⟩
 by_cases h32:32<n
 · exact bad 42 (by decide) (fun w=>class_many r q n w hs h2 hn hq h32 rfl)
 have h32':n≤32:=by omega
 by_cases hqe:q.size=0
 · exact bad 44 (by decide) (fun w=>class_open1 r q n w hs h2 hn hq h32' rfl ((empty_iff q).2 hqe))
 have hqn:=empty_no (r:=q) (by omega)
 by_cases hn0:n=0
 · subst hn0
   refine bad 42 (by decide) (fun w=>class_bad0 r q w hs h2 (by simpa using hq) ?_ rfl hqn)
   have:r.extract 2 r.size=q:=by simpa using hq
   rw [←this];exact hn
 by_cases hc:(q.toList == [58])=true
 · exact bad 44 (by decide) (fun w=>class_open2 r q n w hs h2 hn hq h32' rfl (by omega) hqn hc)
 have hc':(q.toList == [58])=false:=by simpa using hc
 by_cases hp2:Lib.hasPrefix q.data.toList [58,93]=true
 · obtain ⟨a,b⟩:=(pre2_iff _ _ _).1 hp
   obtain ⟨c,d⟩:=(pre2_iff _ _ _).1 hp2
   rw [←hq,ext_drop,List.getElem?_drop] at c d
   rw [ext_drop] at hn
   exact .inr ⟨_,_,_,_,_,.cls n a b hn (by omega) h32' (by simpa using c) (by rw [show 3+n=2+n+1 by omega];exact d)⟩
 · exact bad 42 (by decide) (fun w=>class_bad1 r q n w hs h2 hn hq h32' (by simpa using hp2) (by omega) hqn hc')
theorem beg_copy (r:ByteArray) (hs:r.size≤maxLen) (h0:0<r.size) (fresh:Bool) (h64:r[0].toNat=64):Beg r fresh:=by
 obtain ⟨n,hn⟩:∃ n,spanN isDg (r.extract 1 r.size).data.toList=n:=⟨_,rfl⟩
 have bad:Tells 90 #[.string r] 0 0 0 0 ⟨#[]⟩ 0 43→Beg r fresh:=fun hT => .inl ⟨43,by decide,first_copy r fresh 0 0 0 0 ⟨#[]⟩ 0 43 h0 h64 hT⟩
 by_cases hn0:n=0
 · subst hn0;exact bad (cop_zero r hs h0 hn)
 by_cases h9:9<n
 · exact bad (cop_many r hs h0 n hn h9)
 have hle:1+n≤r.size:=by
  have:=spanN_le isDg (r.extract 1 r.size).data.toList
  rw [hn,ext_drop] at this
  simp at this
  omega
 have h1:1<r.size:=by omega
 by_cases hc:r[1].toNat=48
 · exact bad (cop_nought r hs h0 n hn (by omega) (by omega) h1 hc)
 have hdg:∀ c∈(r.data.toList.drop 1).take n,isDg c=true:=by
  intro c hc
  rw [←hn,ext_drop] at hc
  exact take_span isDg _ c hc
 have hlen:((r.data.toList.drop 1).take n).length=n:=by
  rw [List.length_take,List.length_drop]
  simp
  omega
 obtain ⟨v,hv⟩:=int_ok ((r.data.toList.drop 1).take n) (by intro e;rw [e] at hlen;simp at hlen;omega) hdg (by omega)
 rw [ext_drop] at hn
 refine .inr ⟨_,_,_,_,_,.cpy n v (by rw [of_at r 0 h0];exact congrArg some (UInt8.toNat_inj.1 h64)) hn (by omega) (by omega) ?_ hv⟩
 rw [of_at r 1 h1]
 intro e
 exact hc (by rw [Option.some.inj e];rfl)
def BB (r:ByteArray) (most:Nat):Prop:=(∃ e0:Int,e0≠0∧BTells r most 0 0 e0)∨(∃ n m:Nat,0<n∧n≤most∧m<16 ^ n∧BTells r most m (3+n+1) 0∧r.data.toList[2]? = some 123∧spanN isHx (r.data.toList.drop 3)=n∧r.data.toList[3+n]? = some 125∧valH ((r.data.toList.drop 3).take n)=m)
theorem braced_tot (r:ByteArray) (hs:r.size≤maxLen) (h2:2≤r.size) (most:Nat) (h6:most≤6):BB r most:=by
 by_cases hz2:r.size=2
 · exact .inl ⟨44,by decide,fun w=>braced_short r most w hz2⟩
 have h3:3≤r.size:=by omega
 by_cases hc:r[2].toNat=123
 · obtain ⟨n,hn⟩:∃ n,spanN isHx (r.extract 3 r.size).data.toList=n:=⟨_,rfl⟩
   obtain ⟨q,hq⟩:∃ q,r.extract (3+n) r.size=q:=⟨_,rfl⟩
   have hle:=span3_le r n h3 hn
   have hqz:q.size=r.size - (3+n):=by rw [←hq,ext_size]
   by_cases hm:most<n
   · exact .inl ⟨41,by decide,fun w=>braced_many r most q n w hs h6 h3 hc hn hq hm⟩
   have hm':n≤most:=by omega
   by_cases hqe:q.size=0
   · exact .inl ⟨44,by decide,fun w=>braced_open r most q n w hs h6 h3 hc hn hq hm' ((empty_iff q).2 hqe)⟩
   have hqn:=empty_no (r:=q) (by omega)
   by_cases hn0:n=0
   · subst hn0
     have hq3:r.extract 3 r.size=q:=by simpa using hq
     exact .inl ⟨41,by decide,fun w=>braced_zero r most q w hs h3 hc hq3 (by rw [←hq3];exact hn) hqn⟩
   by_cases hc2:(q[0]'(by omega)).toNat=125
   · have hmid:(r.extract 3 (3+n)).data.toList.length=n:=by
      simp
      omega
     refine .inr ⟨n,valH (r.extract 3 (3+n)).data.toList,by omega,hm',?_,?_,?_,?_,?_,?_⟩
     · have:=valH_lt _ (span_all r n h3 hn)
       rwa [hmid] at this
     · exact fun w=>braced_ok r most q n w hs h6 h3 hc hn hq hm' (by omega) hqn (by omega) hc2 _ rfl
     · rw [of_at r 2 (by omega)];exact congrArg some (UInt8.toNat_inj.1 hc)
     · rw [ext_drop] at hn;exact hn
     · subst hq
       rw [ext_at0 (by omega)] at hc2
       rw [of_at r (3+n) (by omega)];exact congrArg some (UInt8.toNat_inj.1 hc2)
     · rw [ext_any,show 3+n - 3=n by omega]
   · exact .inl ⟨41,by decide,fun w=>braced_nc r most q n w hs h6 h3 hc hn hq hm' (by omega) hqn (by omega) hc2⟩
 · exact .inl ⟨41,by decide,fun w=>braced_nb r most w h3 hc⟩
theorem beg_esc (r:ByteArray) (hs:r.size≤maxLen) (h0:0<r.size) (fresh:Bool) (h92:r[0].toNat=92):Beg r fresh:=by
 have bad:∀ e0:Int,e0≠0→Tells 91 #[.string r] 0 0 0 0 ⟨#[]⟩ 0 e0→Beg r fresh:=fun e0 he hT => .inl ⟨e0,he,first_esc r fresh 0 0 0 0 ⟨#[]⟩ 0 e0 h0 h92 hT⟩
 by_cases h1:r.size=1
 · exact bad 44 (by decide) (esc_end r h1)
 have h2:2≤r.size:=by omega
 have a0:r.data.toList[0]? = some 92:=by rw [of_at r 0 h0];exact congrArg some (UInt8.toNat_inj.1 h92)
 by_cases hx:r[1].toNat=120
 · have a1:r.data.toList[1]? = some 120:=by rw [of_at r 1 h2];exact congrArg some (UInt8.toNat_inj.1 hx)
   rcases braced_tot r hs h2 6 (by omega) with ⟨e0,he,hB⟩ | ⟨n,m,hn0,hn6,hm,hB,b1,b2,b3,b4⟩
   · exact bad e0 he (esc_x r 0 0 0 0 ⟨#[]⟩ 0 e0 h2 hx (eRune_err r 0 0 e0 hB he))
   · by_cases hh:1114111<m
     · exact bad 41 (by decide) (esc_x r 0 0 0 0 ⟨#[]⟩ 0 41 h2 hx (eRune_high r m _ hB (by omega)))
     · by_cases hw:wd m=0
       · exact bad 41 (by decide) (esc_x r 0 0 0 0 ⟨#[]⟩ 0 41 h2 hx (eRune_no r m _ hB (by omega) hw))
       · exact .inr ⟨_,_,_,_,_,.esx n m a0 a1 b1 b2 hn0 hn6 b3 b4 (by omega) hw⟩
 by_cases hb:r[1].toNat=98
 · have a1:r.data.toList[1]? = some 98:=by rw [of_at r 1 h2];exact congrArg some (UInt8.toNat_inj.1 hb)
   rcases braced_tot r hs h2 2 (by omega) with ⟨e0,he,hB⟩ | ⟨n,m,hn0,hn2,hm,hB,b1,b2,b3,b4⟩
   · exact bad e0 he (esc_b r 0 0 0 0 ⟨#[]⟩ 0 e0 h2 hb (eStray_err r 0 0 e0 hB he))
   · by_cases hh:m<128
     · exact bad 41 (by decide) (esc_b r 0 0 0 0 ⟨#[]⟩ 0 41 h2 hb (eStray_low r m _ hB (by omega)))
     · have hm2:m≤255:=by
        have:16 ^ n≤16 ^ 2:=Nat.pow_le_pow_right (by omega) hn2
        omega
       exact .inr ⟨_,_,_,_,_,.esb n m a0 a1 b1 b2 hn0 hn2 b3 b4 (by omega) hm2⟩
 by_cases hlo:r[1].toNat<32
 · exact bad 41 (by decide) (esc_low r h2 hx hb hlo)
 by_cases hhi:126<r[1].toNat
 · exact bad 41 (by decide) (esc_high r h2 hx hb hhi)
 cases hlt:isLt r[1]
 · cases hdg:isDg r[1]
   · exact .inr ⟨_,_,_,_,_,.esp r[1] a0 (of_at r 1 h2) hx hb (by omega) (by omega) hlt hdg⟩
   · exact bad 41 (by decide) (esc_digit r h2 hx hb (by omega) (by omega) hlt hdg)
 · exact bad 41 (by decide) (esc_letter r h2 hx hb (by omega) (by omega) hlt)
theorem beg_bare (r:ByteArray) (hs:r.size≤maxLen) (h0:0<r.size) (fresh:Bool) (h36:r[0].toNat≠36) (hi:Lib.indexByte sgnL r[0] = -1) (h64:r[0].toNat≠64) (h92:r[0].toNat≠92):Beg r fresh:=by
 have h91:r[0].toNat≠91:=fun e=>by
  have e2:r[0]=91:=UInt8.toNat_inj.1 e
  rw [e2] at hi
  revert hi
  decide +kernel
 have hp:=noPre r h0 h91
 by_cases hth:fresh=true∧endsB r=true
 · obtain ⟨rfl,he⟩:=hth
   exact .inr ⟨_,_,_,_,_,.thn rfl (by rw [back_arr];exact he)⟩
 have to25:∀ (k a l u:Int) (t:ByteArray) (n e0:Int),Tells 93 #[.string r] k a l u t n e0→Tells 47 #[.string r,.bool fresh] k a l u t n e0:=fun k a l u t n e0 hT=>by
  cases fresh with
  | false=>exact first_bare r false k a l u t n e0 hs h0 h36 hp hi h64 h92 rfl hT
  | true=>exact first_bare2 r k a l u t n e0 hs h0 h36 hp hi h64 h92 (by simpa using hth) hT
 have hf:=firstU_at r h0
 have bad:Tells 93 #[.string r] 0 0 0 0 ⟨#[]⟩ 0 40→Beg r fresh:=fun hT => .inl ⟨40,by decide,to25 0 0 0 0 ⟨#[]⟩ 0 40 hT⟩
 by_cases hlo:uAt r 0<32
 · exact bad (fun w=>bare_low r (uAt r 0) _ w hs hf rfl hlo)
 by_cases h127:uAt r 0=127
 · rw [h127] at hf
   exact bad (fun w=>bare_127 r _ w hs hf rfl)
 by_cases hhi:1114111<uAt r 0
 · exact bad (fun w=>bare_high r (uAt r 0) _ w hs hf rfl hhi)
 cases hr:rsv (uAt r 0)
 · exact .inr ⟨_,_,_,_,_,.bar r[0] (of_at r 0 h0) h36 hi h64 h92 (by rw [back_arr];intro hf;simpa [hf] using hth) (by rw [back_arr];omega) (by rw [back_arr];exact h127) (by rw [back_arr];omega) (by rw [back_arr];exact hr)⟩
 · exact bad (fun w=>bare_rsv r (uAt r 0) _ w hs hf hr (by omega) h127 (by omega))
theorem beg_total (r:ByteArray) (hs:r.size≤maxLen) (h0:0<r.size) (fresh:Bool):Beg r fresh:=by
 obtain ⟨m,hm⟩:∃ m,spanN isNm (r.extract 1 r.size).data.toList=m:=⟨_,rfl⟩
 by_cases h36:r[0].toNat=36
 · have e:r[0]=36:=UInt8.toNat_inj.1 h36
   have a0:r.data.toList[0]? = some 36:=by rw [of_at r 0 h0];exact congrArg some e
   by_cases hm0:0<m
   · by_cases h32:m≤32
     · exact .inr ⟨_,_,_,_,_,.var m a0 (by rw [←ext_drop];exact hm) hm0 h32⟩
     · exact .inl ⟨42,by decide,first_var r fresh 0 0 0 0 ⟨#[]⟩ 0 42 hs h0 m h36 hm hm0 (fun w=>variable_bad r m w hs h0 hm (by omega))⟩
   · obtain rfl:m=0:=by omega
     exact .inr ⟨_,_,_,_,_,.sgn 6 36 a0 (by decide +kernel) (fun h=>absurd h (by decide)) (fun _=>by rw [←ext_drop];exact hm)⟩
 cases hp:Lib.hasPrefix r.data.toList [91,58]
 · rcases idx_sgn r[0] with hi | ⟨i,hi⟩
   · by_cases h64:r[0].toNat=64
     · exact beg_copy r hs h0 fresh h64
     · by_cases h92:r[0].toNat=92
       · exact beg_esc r hs h0 fresh h92
       · exact beg_bare r hs h0 fresh h36 hi h64 h92
   · refine .inr ⟨_,_,_,_,_,.sgn i r[0] (of_at r 0 h0) hi (fun h k => ?_) (fun h=>absurd (by rw [h];rfl) h36)⟩
     have:=(pre2_iff r.data.toList 91 58).2 ⟨by rw [of_at r 0 h0,h],k⟩
     rw [hp] at this
     cases this
 · have h91:r[0].toNat=91:=by
    apply Classical.byContradiction
    intro h
    rw [noPre r h0 h] at hp
    cases hp
   exact beg_class r hs h0 fresh h91 hp
theorem Tells.tokS {r:ByteArray} {fresh:Bool} {k:Int} {l:Nat} {u:Int} {t:ByteArray} {n:Int} (hs:r.size≤maxLen) (h0:0<r.size) (h:Tells 47 #[.string r,.bool fresh] k 0 l u t n 0):TokS r.data.toList fresh k l u t.data.toList n:=by
 rcases beg_total r hs h0 fresh with ⟨e0,he,hT⟩ | ⟨k',l',u',t',n',hS⟩
 · exact absurd (h.one hT).2.2.2.2.2.2.symm he
 · obtain ⟨e1,_,e3,e4,e5,e6,_⟩:=h.one (hS.tells hs).1
   have e3':=Int.ofNat_inj.1 e3
   subst e1;subst e3';subst e4;subst e5;subst e6
   simpa using hS
end Go.Proofs
namespace Go.Proofs
open Go.RowKit Go.Shelf
set_option maxRecDepth 100000
theorem span_in (f:UInt8→Bool):∀ (x A B:List UInt8) (n:Nat),spanN f (x++A)=n→n<x.length→spanN f (x++B)=n
 | [],_,_,_,_,h2=>by simp at h2
 | c::x,A,B,n,h,h2=>by
  simp only [List.cons_append,spanN_cons] at h ⊢
  split at h
  · rename_i hc
    rw [if_pos hc]
    have:=span_in f x A B (n - 1) (by omega) (by simp at h2;omega)
    omega
  · rename_i hc
    rw [if_neg hc]
    exact h
theorem idx_left {x A B:List UInt8} {i:Nat} (h:i<x.length):(x++B)[i]? = (x++A)[i]? := by
 rw [List.getElem?_append_left h,List.getElem?_append_left h]
theorem drop_left {x:List UInt8} (B:List UInt8) {i:Nat} (h:i≤x.length):(x++B).drop i=x.drop i++B:=List.drop_append_of_le_length h
theorem take_left {x:List UInt8} (B:List UInt8) {i:Nat} (h:i≤x.length):(x++B).take i=x.take i:=List.take_append_of_le_length h
theorem unit_move {x A B:List UInt8} (hl:x.length=uw ⟨(x++A).toArray⟩ 0) (hu:uAt ⟨(x++A).toArray⟩ 0≤1114111) :
 uw ⟨(x++B).toArray⟩ 0=x.length∧uAt ⟨(x++B).toArray⟩ 0=uAt ⟨(x++A).toArray⟩ 0:=by
 have hpos:=uw_pos ⟨(x++A).toArray⟩ 0
 have hg:∀ k,k<x.length→(⟨(x++B).toArray⟩:ByteArray).get! (0+k)=(⟨(x++A).toArray⟩:ByteArray).get! (0+k):=fun k hk=>by
  rw [get_lit,get_lit,List.getD_eq_getElem?_getD,List.getD_eq_getElem?_getD,Nat.zero_add,idx_left hk]
 by_cases h1:uw ⟨(x++A).toArray⟩ 0=1
 · rcases one_wide _ 0 h1 with ⟨hb,hd⟩ | ⟨hb,hd⟩
   · have e:=hg 0 (by omega)
     rw [Nat.zero_add] at e
     have hd':=dec1 ⟨(x++B).toArray⟩ 0 (by rw [e];exact hb)
     rw [e] at hd'
     refine ⟨?_,?_⟩
     · rw [hl,h1]
       unfold uw
       rw [hd']
     · rw [uAt_of_rune hd (by omega),uAt_of_rune hd' (by omega)]
   · have:=uAt_stray ((stray_iff _ 0).2 hd)
     omega
 · obtain ⟨c,hF⟩:=form_of ⟨(x++A).toArray⟩ 0 (by omega)
   have hz:0+uw ⟨(x++A).toArray⟩ 0≤(⟨(x++B).toArray⟩:ByteArray).size:=by
    rw [size_lit,List.length_append];omega
   have hF2:Form ⟨(x++B).toArray⟩ 0 c (uw ⟨(x++A).toArray⟩ 0):=hF.move hz (fun k hk=>by rw [hg k (by omega)])
   have hw:=hF2.uw
   refine ⟨by rw [hw,hl],?_⟩
   have ns:∀ s:ByteArray,Utf8.decode s 0=(c,uw ⟨(x++A).toArray⟩ 0)→uAt s 0=c:=fun s hs=>by
    have:strayAt s 0=false:=by
     cases hc:strayAt s 0
     · rfl
     · have:=(stray_iff s 0).1 hc
       rw [hs] at this
       simp at this
       omega
    rw [uAt_rune this,hs]
   rw [ns _ hF.2.1,ns _ hF2.2.1]
end Go.Proofs
namespace Go.Proofs
open Go.RowKit Go.Shelf
inductive It where
 | mk (k u:Int) (t:ByteArray) (ps:List It) (lo hi:Int) (nt:Bool) (key:Int)
structure Ln where
 (k a:Int) (t:ByteArray) (bg en:Bool) (ante key post res:List It) (cur:Int)
inductive Res (α:Type) where
 | ok (x:α) (r:List Tok)
 | no (a c:Int)
def Res.bind {α β:Type} (x:Res α) (f:α→List Tok→Res β):Res β:=
 match x with
 | .ok y r=>f y r
 | .no a c => .no a c
def byteAt (t:ByteArray) (i:Nat):Int:=((t.data.getD i 0).toNat:Int)
def which (t:Tok):Int:=if t.k=2 then byteAt t.t 0 else t.k
def nxt:List Tok→Int
 | []=>0
 | t::_=>which t
def atOf (e:Int):List Tok→Int
 | []=>e
 | t::_=>t.a
def begun (n:Int):Nat:=if n=1 then 1 else if n=36 then 2 else if n=58 then 3 else if n=17 then 4 else if n=18 then 5 else if n=3 then 7 else 0
def bareN (t:Tok):ByteArray:=if which t=58 then t.t.extract 1 (t.t.size - 1) else t.t.extract 1 t.t.size
def passT (n:Int) (ts:List Tok):Bool × List Tok:=if nxt ts=n then (true,ts.tail) else (false,ts)
def wantT (e n:Int) (ts:List Tok):Res Unit:=if nxt ts=n then .ok () ts.tail else .no (atOf e ts) 50
def isRng (lo hi:Int):Bool:=decide (lo≤hi) && (decide (1114111<lo) == decide (1114111<hi))
def upToT (e:Int) (f:Tok):List Tok→Res It
 | [] => .no e 50
 | t::r=>if which t=1 then (if isRng f.u t.u then .ok (.mk 6 0 ⟨#[]⟩ [] f.u t.u false 0) r else .no f.a 51) else .no t.a 50
def rowT (e:Int) (may:Nat) (item:List Tok→Res It):Nat→List Tok→Res (List It)
 | 0,ts=>if may.testBit (begun (nxt ts)) then .no (atOf e ts) 52 else .ok [] ts
 | d+1,ts=>if may.testBit (begun (nxt ts)) then (item ts).bind fun x r=>(rowT e may item d r).bind fun xs r2 => .ok (x::xs) r2 else .ok [] ts
def restT (e:Int) (may:Nat) (sets:List Tok→Res (List It)) (pairs:List Tok→Res It) (t:Tok) (r:List Tok):Res It:=
 match begun (which t) with
 | 1=>if may.testBit 6 && (nxt r == 20) then upToT e t r.tail else .ok (.mk 1 t.u ⟨#[]⟩ [] 0 0 false 0) r
 | 2 => .ok (.mk 2 0 (bareN t) [] 0 0 false 0) r
 | 3 => .ok (.mk 3 0 (bareN t) [] 0 0 false 0) r
 | 4 => .ok (.mk 4 0 ⟨#[]⟩ [] 0 0 false 0) r
 | 5=>(sets (passT 15 r).2).bind fun ps r2=>(wantT e 19 r2).bind fun _ r3 => .ok (.mk 5 0 ⟨#[]⟩ ps 0 0 (passT 15 r).1 0) r3
 | _=>if nxt r=22 then (pairs r.tail).bind fun x r2 => .ok (.mk 8 0 ⟨#[]⟩ [x] 0 0 false t.n) r2 else .ok (.mk 7 0 ⟨#[]⟩ [] 0 0 false t.n) r
def itemT (e:Int) (may:Nat) (sets:List Tok→Res (List It)) (pairs:List Tok→Res It):List Tok→Res It
 | [] => .no e 50
 | t::r=>if may.testBit (begun (which t)) then restT e may sets pairs t r else .no t.a 50
def noRow:List Tok→Res (List It):=fun _ => .no 0 0
def noItem:List Tok→Res It:=fun _ => .no 0 0
def partT (e:Int):List Tok→Res It:=itemT e 78 noRow noItem
def partsT (e:Int):List Tok→Res (List It):=rowT e 78 (partT e) 512
def sideT (e:Int) (may:Nat):List Tok→Res It:=itemT e may (partsT e) noItem
def pieceT (e:Int):List Tok→Res It:=itemT e 386 noRow (sideT e 60)
def sidesT (e:Int):List Tok→Res (List It):=rowT e 62 (sideT e 62) 512
def resultT (e:Int) (d:Nat):List Tok→Res (List It):=rowT e 386 (pieceT e) d
def postT (e:Int) (ts:List Tok):Res (List It × Bool):=
 if nxt ts=13 then (sidesT e ts.tail).bind fun po r => .ok (po,(passT 16 r).1) (passT 16 r).2 else .ok ([],false) ts
def tailT (e:Int) (ts:List Tok):Res (List It × Int):=
 (resultT e 512 ts).bind fun x r=>if nxt r=14 then (resultT e (512 - x.length) r.tail).bind fun y r2 => .ok (x++y,(x.length:Int)) r2 else .ok (x,(x.length:Int)) r
def anteT (e:Int) (bg:Bool) (x:List It) (ts:List Tok):Res (List It × List It):=
 if bg || (nxt ts == 12) then (wantT e 12 ts).bind fun _ r=>(sidesT e r).bind fun y r2 => .ok (x,y) r2 else .ok ([],x) ts
def ruleT (e:Int) (ts:List Tok):Res Ln:=
 (sidesT e (passT 15 ts).2).bind fun x r1=>(anteT e (passT 15 ts).1 x r1).bind fun ak r2=>(postT e r2).bind fun pe r3=>(wantT e 10 r3).bind fun _ r4=>(tailT e r4).bind fun rc r5=>
  .ok ⟨2,0,⟨#[]⟩,(passT 15 ts).1,pe.2,ak.1,ak.2,pe.1,rc.1,rc.2⟩ r5
def defT (e:Int) (t:Tok) (ts:List Tok):Res Ln:=
 (wantT e 21 ts).bind fun _ r=>(sideT e 62 r).bind fun x r2 => .ok ⟨1,0,bareN t,false,false,[],[x],[],[],0⟩ r2
def someT (e:Int) (ts:List Tok):Res Ln:=
 match ts with
 | []=>ruleT e []
 | t::r=>if which t=116 then .ok ⟨3,0,⟨#[]⟩,false,false,[],[],[],[],0⟩ r else if which t=36∧nxt r=21 then defT e t r else ruleT e (t::r)
def lineT (e:Int) (ts:List Tok):Res Ln:=
 (someT e ts).bind fun l r=>(wantT e 11 r).bind fun _ r2 => .ok { l with a:=atOf e ts } r2
def linesT (e:Int):Nat→List Tok→Res (List Ln)
 | 0,ts => .ok [] ts
 | f+1,ts=>if nxt ts=0 then .ok [] ts else (lineT e ts).bind fun l r=>(linesT e f r).bind fun ls r2 => .ok (l::ls) r2
end Go.Proofs
