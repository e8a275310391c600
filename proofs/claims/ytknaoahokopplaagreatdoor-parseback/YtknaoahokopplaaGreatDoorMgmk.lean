/-
  Several texts in one (Klk Tbk).
-/
import Derived.Test.YtknaoahokopplaaGreatDoorMgik
import Derived.Test.YtknaoahokopplaaGreatDoorMgjk
import Derived.Test.YtknaoahokopplaaGreatDoorKjk
import Derived.Test.YtknaoahokopplaaGreatDoorMglk
namespace Go.Proofs
open Go.RowKit Go.Shelf
set_option maxRecDepth 100000
def Both (s:ByteArray) (q:Nat) (fresh:Bool):Prop:=
 (∃ e0:Int,e0≠0∧Tells 47 #[.string (s.extract q s.size),.bool fresh] 0 0 0 0 ⟨#[]⟩ 0 e0∧Tells 45 #[.string s,.int .i64 q,.bool fresh] 0 0 0 0 ⟨#[]⟩ 0 e0) ∨
 (∃ (k:Int) (l:Nat) (u:Int) (t:ByteArray) (n:Int),Tells 47 #[.string (s.extract q s.size),.bool fresh] k 0 l u t n 0∧Tells 45 #[.string s,.int .i64 q,.bool fresh] k q l u t n 0∧0<l∧q+l≤s.size)
theorem both_runs (s:ByteArray) (hB:∀ q fresh,q<s.size→pastN false (s.data.toList.drop q)=0→Both s q fresh):∀ (m p:Nat) (fresh:Bool),p≤s.size→s.size - p≤m→∃ toks fa fe,Run s p fresh toks fa fe∧RRun s p fresh toks fa fe∧fa≤s.size:=by
 intro m
 induction m with
 | zero=>
  intro p fresh hp hm
  obtain rfl:p=s.size:=by omega
  exact ⟨[],0,0,.fin (by rw [List.drop_of_length_le (by simp)];simp [pastN]),.fin (by rw [List.drop_of_length_le (by simp)];simp [pastN]),by omega⟩
 | succ m ih=>
  intro p fresh hp hm
  obtain ⟨q,hq⟩:∃ q,q=p+pastN false (s.data.toList.drop p):=⟨_,rfl⟩
  have hqle:q≤s.size:=by
   have:=pastN_le false (s.data.toList.drop p)
   simp at this
   omega
  by_cases hqs:q=s.size
  · exact ⟨[],0,0,.fin (by omega),.fin (by omega),by omega⟩
  have hlt:q<s.size:=by omega
  have hpq:=past_drop false (s.data.toList.drop p)
  rw [List.drop_drop,←hq] at hpq
  rcases hB q fresh hlt hpq with ⟨e0,he,h1,h2⟩ | ⟨k,l,u,t,n,h1,h2,hl0,hl⟩
  · exact ⟨[],q,e0,.bad hq hlt h1 he,.bad hq hlt h2 he,hqle⟩
  · obtain ⟨toks,fa,fe,hR,hR2,hfa⟩:=ih (q+l) (decide (k=11)) (by omega) (by omega)
    exact ⟨_,fa,fe,.step hq hlt h1 hl0 hl hR,.step hq hlt h2 hl0 hl hR2,hfa⟩
theorem ext_at0 {s:ByteArray} {q:Nat} (h:q<s.size):(s.extract q s.size)[0]'(by rw [ByteArray.size_extract];omega)=s[q]:=by
 have h1:=drop_at (s:=s.extract q s.size) (k:=0) (by rw [ByteArray.size_extract];omega)
 rw [List.drop_zero,ext_drop,drop_at h] at h1
 exact (List.cons.inj h1).1.symm
theorem ext_tail (s:ByteArray) (q:Nat):((s.extract q s.size).extract 1 (s.extract q s.size).size).data.toList=s.data.toList.drop (q+1):=by
 rw [ext_drop,ext_drop,List.drop_drop]
theorem ext_front (s:ByteArray) (q k:Nat):(s.extract q s.size).extract 0 k=s.extract q (q+k):=by
 apply ByteArray.ext
 apply Array.toList_inj.1
 rw [ext_take,ext_drop]
 simp only [ByteArray.data_extract,Array.toList_extract,List.extract]
 rw [Nat.add_sub_cancel_left]
theorem both_sign (s:ByteArray) (hs:s.size≤1000000) (q:Nat) (h:q<s.size) (fresh:Bool) (i:Nat) (hi:Lib.indexByte sgnL s[q]=(i:Int)) (hp:Lib.hasPrefix (s.data.toList.drop q) [91,58]=false) (h36:s[q].toNat≠36):Both s q fresh:=by
 have hz:(s.extract q s.size).size=s.size - q:=ext_size s q
 have hsm:(s.extract q s.size).size≤maxLen:=by rw [hz];unfold maxLen;omega
 have hb:=(sgn_bound s[q]).1
 refine .inr ⟨10+i,1,0,⟨#[]⟩,0,?_,?_,by omega,by omega⟩
 · exact first_sign _ fresh i hsm (by omega) (by rw [ext_at0 h];exact h36) (by rw [ext_drop];exact hp) (by rw [ext_at0 h];exact hi)
 · exact rtok_sign s q i fresh hs h h36 hp hi (by omega)
theorem both_var (s:ByteArray) (hs:s.size≤1000000) (q:Nat) (h:q<s.size) (fresh:Bool) (h36:s[q].toNat=36) (m:Nat) (hm:spanN isNm (s.data.toList.drop (q+1))=m):Both s q fresh:=by
 have hz:(s.extract q s.size).size=s.size - q:=ext_size s q
 have hsm:(s.extract q s.size).size≤maxLen:=by rw [hz];unfold maxLen;omega
 have hc:(s.extract q s.size)[0]'(by omega)=s[q]:=ext_at0 h
 have hm1:spanN isNm ((s.extract q s.size).extract 1 (s.extract q s.size).size).data.toList=m:=by rw [ext_tail];exact hm
 have hle:q+1+m≤s.size:=by
  have:=spanN_le isNm (s.data.toList.drop (q+1))
  rw [hm] at this
  simp at this
  omega
 by_cases hm0:m=0
 · subst hm0
   have e:s[q]=36:=UInt8.toNat_inj.1 h36
   have hp:Lib.hasPrefix (s.extract q s.size).data.toList [91,58]=false:=noPre _ (by omega) (by rw [hc];omega)
   have hi:Lib.indexByte sgnL s[q]=6:=by rw [e];decide +kernel
   refine .inr ⟨16,1,0,⟨#[]⟩,0,?_,?_,by omega,by omega⟩
   · exact first_sign36 _ fresh 6 hsm (by omega) (by rw [hc];exact h36) hm1 hp (by rw [hc];exact hi)
   · exact rtok_sign36 s q fresh hs h h36 hm (by rw [←ext_drop];exact hp) hi
 · by_cases h32:m≤32
   · have e1:=ext_front s q (1+m)
     rw [show q+(1+m)=q+1+m by omega] at e1
     refine .inr ⟨2,1+m,0,s.extract q (q+1+m),0,?_,?_,by omega,by omega⟩
     · have:=first_var (s.extract q s.size) fresh 2 0 (1+m) 0 ((s.extract q s.size).extract 0 (1+m)) 0 0 hsm (by omega) m (by rw [hc];exact h36) hm1 (by omega) (fun w=>variable_ok _ m w hsm (by omega) hm1 h32)
       rw [e1] at this
       rw [show ((1+m:Nat):Int)=1+(m:Int) by omega]
       exact this
     · have:=rtok_var s q m fresh hs h h36 hm (by omega) h32
       rw [show ((1+m:Nat):Int)=(m:Int)+1 by omega]
       exact this
   · exact .inl ⟨42,by decide,first_var _ fresh 0 0 0 0 ⟨#[]⟩ 0 42 hsm (by omega) m (by rw [hc];exact h36) hm1 (by omega) (fun w=>variable_bad _ m w hsm (by omega) hm1 (by omega)),rtok_varbad s q m fresh hs h h36 hm (by omega)⟩
end Go.Proofs
namespace Go.Proofs
open Go.RowKit Go.Shelf
set_option maxRecDepth 100000
inductive TokS (L:List UInt8) (fresh:Bool):Int→Nat→Int→List UInt8→Int→Prop
 | var (m:Nat) (h0:L[0]? = some 36) (hm:spanN isNm (L.drop 1)=m) (hm0:0<m) (h32:m≤32):TokS L fresh 2 (1+m) 0 (L.take (1+m)) 0
 | cls (n:Nat) (h0:L[0]? = some 91) (h1:L[1]? = some 58) (hn:spanN isNm (L.drop 2)=n) (hn0:0<n) (h32:n≤32) (h2:L[2+n]? = some 58) (h3:L[3+n]? = some 93):TokS L fresh 2 (2+n+2) 0 ((L.drop 1).take (n+2)) 0
 | sgn (i:Nat) (c:UInt8) (h0:L[0]? = some c) (hi:Lib.indexByte sgnL c=i) (hp:c=91→L[1]? ≠ some 58) (hd:c=36→spanN isNm (L.drop 1)=0):TokS L fresh (10+i) 1 0 [] 0
 | cpy (n:Nat) (v:Int) (h0:L[0]? = some 64) (hn:spanN isDg (L.drop 1)=n) (hn0:0<n) (h9:n≤9) (hc:L[1]? ≠ some 48) (hv:Lib.parseIntB 64 ((L.drop 1).take n) = .ok v):TokS L fresh 3 (1+n) 0 [] v
 | esx (n m:Nat) (h0:L[0]? = some 92) (h1:L[1]? = some 120) (h2:L[2]? = some 123) (hn:spanN isHx (L.drop 3)=n) (hn0:0<n) (h6:n≤6) (hc:L[3+n]? = some 125) (hm:valH ((L.drop 3).take n)=m) (hh:m≤1114111) (hw:wd m≠0):TokS L fresh 1 (3+n+1) m [] 0
 | esb (n m:Nat) (h0:L[0]? = some 92) (h1:L[1]? = some 98) (h2:L[2]? = some 123) (hn:spanN isHx (L.drop 3)=n) (hn0:0<n) (h6:n≤2) (hc:L[3+n]? = some 125) (hm:valH ((L.drop 3).take n)=m) (hl:128≤m) (hh:m≤255):TokS L fresh 1 (3+n+1) (1114112+m) [] 0
 | esp (c:UInt8) (h0:L[0]? = some 92) (h1:L[1]? = some c) (hx:c.toNat≠120) (hb:c.toNat≠98) (h32:32≤c.toNat) (h126:c.toNat≤126) (hlt:isLt c=false) (hdg:isDg c=false):TokS L fresh 1 2 c.toNat [] 0
 | thn (hf:fresh=true) (he:endsB ⟨L.toArray⟩=true):TokS L fresh 2 4 0 [116,104,101,110] 0
 | bar (c:UInt8) (h0:L[0]? = some c) (h36:c.toNat≠36) (hi:Lib.indexByte sgnL c = -1) (h64:c.toNat≠64) (h92:c.toNat≠92) (hf:fresh=true→endsB ⟨L.toArray⟩=false) (h1:32≤uAt ⟨L.toArray⟩ 0) (h2:uAt ⟨L.toArray⟩ 0≠127) (h3:uAt ⟨L.toArray⟩ 0≤1114111) (hr:rsv (uAt ⟨L.toArray⟩ 0)=false):TokS L fresh 1 (uw ⟨L.toArray⟩ 0) (uAt ⟨L.toArray⟩ 0) [] 0
theorem back_arr (r:ByteArray):(⟨r.data.toList.toArray⟩:ByteArray)=r:=by
 cases r;simp
theorem at_of {r:ByteArray} {i:Nat} {c:UInt8} (h:r.data.toList[i]? = some c):∃ hi:i<r.size,r[i]=c:=by
 rw [Array.getElem?_toList] at h
 obtain ⟨hi,e⟩:=Array.getElem?_eq_some_iff.1 h
 exact ⟨hi,e⟩
theorem of_at (r:ByteArray) (i:Nat) (hi:i<r.size):r.data.toList[i]? = some r[i]:=by
 rw [Array.getElem?_toList]
 exact Array.getElem?_eq_some_iff.2 ⟨hi,rfl⟩
theorem pre2_iff (L:List UInt8) (a b:UInt8):Lib.hasPrefix L [a,b]=true↔L[0]? = some a∧L[1]? = some b:=by
 constructor
 · intro h
   have:=pre_two h
   match L,this with
   | x::y::L,e=>simp at e;simp [e]
 · rintro ⟨h1,h2⟩
   apply two_pre
   match L,h1,h2 with
   | x::y::L,h1,h2=>simp at h1 h2;simp [h1,h2]
theorem pre2_no (L:List UInt8) (a b:UInt8) (h:L[0]? = some a→L[1]? ≠ some b):Lib.hasPrefix L [a,b]=false:=by
 cases hc:Lib.hasPrefix L [a,b]
 · rfl
 · obtain ⟨h1,h2⟩:=(pre2_iff L a b).1 hc
   exact absurd h2 (h h1)
theorem ext_any (r:ByteArray) (a b:Nat):(r.extract a b).data.toList=(r.data.toList.drop a).take (b - a):=by
 simp only [ByteArray.data_extract,Array.toList_extract,List.extract]
theorem ext_lit (r:ByteArray) (a b:Nat) {x:List UInt8} (h:(r.data.toList.drop a).take (b - a)=x):r.extract a b=⟨x.toArray⟩:=by
 apply ByteArray.ext
 apply Array.toList_inj.1
 rw [ext_any,h]
theorem ends_then {r:ByteArray} (h:endsB r=true):∃ h0:0<r.size,r[0].toNat=116∧4≤r.size∧r.data.toList.take 4=[116,104,101,110]:=by
 unfold endsB at h
 simp only [Bool.and_eq_true] at h
 have hp:=h.1
 have h4:=pre_len hp
 rw [←Lib.hasPrefix_of_take] at hp
 simp only [Bool.and_eq_true,beq_iff_eq] at hp
 have ht:r.data.toList.take 4=[116,104,101,110]:=hp.2
 have hz:4≤r.size:=by simpa using h4
 have h0:r.data.toList[0]? = some 116:=by
  have:=congrArg (fun l=>l[0]?) ht
  simpa [List.getElem?_take] using this
 obtain ⟨i,e⟩:=at_of h0
 exact ⟨i,by rw [e];rfl,hz,ht⟩
theorem TokS.tells {r:ByteArray} {fresh:Bool} {k:Int} {l:Nat} {u:Int} {t:List UInt8} {n:Int} (hs:r.size≤maxLen) (h:TokS r.data.toList fresh k l u t n):Tells 47 #[.string r,.bool fresh] k 0 l u ⟨t.toArray⟩ n 0∧0<l∧l≤r.size:=by
 cases h with
 | var m h0 hm hm0 h32=>
  obtain ⟨hz,e⟩:=at_of h0
  rw [←ext_drop] at hm
  have hle:1+m≤r.size:=by
   have:=spanN_le isNm (r.extract 1 r.size).data.toList
   rw [hm,ext_drop] at this
   simp at this
   omega
  refine ⟨?_,by omega,hle⟩
  have:=first_var r fresh 2 0 (1+m) 0 (r.extract 0 (1+m)) 0 0 hs hz m (by rw [e];rfl) hm hm0 (fun w=>variable_ok r m w hs (by omega) hm h32)
  rw [ext_lit r 0 (1+m) (x:=r.data.toList.take (1+m)) (by simp)] at this
  simpa using this
 | cls n h0 h1 hn hn0 h32 h2 h3=>
  obtain ⟨hz,e⟩:=at_of h0
  obtain ⟨hz3,_⟩:=at_of h3
  rw [←ext_drop] at hn
  have hp:=(pre2_iff r.data.toList 91 58).2 ⟨h0,h1⟩
  refine ⟨?_,by omega,by omega⟩
  have hp2:Lib.hasPrefix (r.extract (2+n) r.size).data.toList [58,93]=true:=(pre2_iff _ _ _).2 (by rw [ext_drop,List.getElem?_drop,List.getElem?_drop];exact ⟨by simpa using h2,by rw [show 2+n+1=3+n by omega];exact h3⟩)
  have hqz:(r.extract (2+n) r.size).size=r.size - (2+n):=ext_size r (2+n)
  have hc':((r.extract (2+n) r.size).toList == [58])=false:=by
   cases hc:((r.extract (2+n) r.size).toList == [58])
   · rfl
   · rw [beq_iff_eq,Lib.toList_data] at hc
     have:=congrArg List.length hc
     simp at this
     omega
  have:=first_class r fresh 2 0 (2+n+2) 0 (r.extract 1 (2+n+1)) 0 0 hs hz (by rw [e];rfl) hp (fun w=>class_ok r (r.extract (2+n) r.size) n w hs (by omega) hn rfl h32 hp2 hn0 (empty_no (by omega)) hc' (by omega))
  rw [ext_lit r 1 (2+n+1) (x:=(r.data.toList.drop 1).take (n+2)) (by rw [show 2+n+1 - 1=n+2 by omega])] at this
  simpa using this
 | sgn i c h0 hi hp hd=>
  obtain ⟨hz,e⟩:=at_of h0
  have hpf:Lib.hasPrefix r.data.toList [91,58]=false:=pre2_no _ _ _ (fun k=>hp (by rw [h0] at k;exact Option.some.inj k))
  refine ⟨?_,by omega,hz⟩
  by_cases h36:c=36
  · exact first_sign36 r fresh i hs hz (by rw [e,h36];rfl) (by rw [ext_drop];exact hd h36) hpf (by rw [e];exact hi)
  · exact first_sign r fresh i hs hz (by rw [e];intro h;exact h36 (UInt8.toNat_inj.1 h)) hpf (by rw [e];exact hi)
 | cpy m v h0 hm hn0 h9 hc hv=>
  obtain ⟨hz,e⟩:=at_of h0
  rw [←ext_drop] at hm
  have hle:1+m≤r.size:=by
   have:=spanN_le isDg (r.extract 1 r.size).data.toList
   rw [hm,ext_drop] at this
   simp at this
   omega
  refine ⟨?_,by omega,hle⟩
  have hc1:(r[1]'(by omega)).toNat≠48:=fun h=>hc (by rw [of_at r 1 (by omega)];exact congrArg some (UInt8.toNat_inj.1 h))
  have:=first_copy r fresh 3 0 (1+m) 0 ⟨#[]⟩ n 0 hz (by rw [e];rfl) (cop_ok r hs hz m hm hn0 h9 (by omega) hc1 n (by rw [ext_any,show 1+m - 1=m by omega];exact hv))
  simpa using this
 | esx a b h0 h1 h2 ha hn0 h6 hc hb hh hw=>
  rw [←ext_drop] at ha
  obtain ⟨hz,e⟩:=at_of h0
  obtain ⟨hz1,e1⟩:=at_of h1
  obtain ⟨hz2,e2⟩:=at_of h2
  obtain ⟨hz3,e3⟩:=at_of hc
  refine ⟨?_,by omega,by omega⟩
  have hqz:(r.extract (3+a) r.size).size=r.size - (3+a):=ext_size r (3+a)
  have hB:BTells r 6 b (3+a+1) 0:=fun w=>braced_ok r 6 (r.extract (3+a) r.size) a w hs (by omega) (by omega) (by rw [e2];rfl) ha rfl h6 hn0 (empty_no (by omega)) (by omega) (by rw [ext_at0 hz3,e3];rfl) b (by rw [ext_any,show 3+a - 3=a by omega];exact hb)
  have:=first_esc r fresh 1 0 (3+a+1) b ⟨#[]⟩ 0 0 hz (by rw [e];rfl) (esc_x r 1 0 (3+a+1) b ⟨#[]⟩ 0 0 (by omega) (by rw [e1];rfl) (eRune_ok r b (3+a+1) _ hB (by omega) rfl hw))
  simpa using this
 | esb a b h0 h1 h2 ha hn0 h6 hc hb hl hh=>
  rw [←ext_drop] at ha
  obtain ⟨hz,e⟩:=at_of h0
  obtain ⟨hz1,e1⟩:=at_of h1
  obtain ⟨hz2,e2⟩:=at_of h2
  obtain ⟨hz3,e3⟩:=at_of hc
  refine ⟨?_,by omega,by omega⟩
  have hqz:(r.extract (3+a) r.size).size=r.size - (3+a):=ext_size r (3+a)
  have hB:BTells r 2 b (3+a+1) 0:=fun w=>braced_ok r 2 (r.extract (3+a) r.size) a w hs (by omega) (by omega) (by rw [e2];rfl) ha rfl h6 hn0 (empty_no (by omega)) (by omega) (by rw [ext_at0 hz3,e3];rfl) b (by rw [ext_any,show 3+a - 3=a by omega];exact hb)
  have:=first_esc r fresh 1 0 (3+a+1) (1114112+b) ⟨#[]⟩ 0 0 hz (by rw [e];rfl) (esc_b r 1 0 (3+a+1) (1114112+b) ⟨#[]⟩ 0 0 (by omega) (by rw [e1];rfl) (eStray_ok r b (3+a+1) hB (by omega) (by omega)))
  simpa using this
 | esp c h0 h1 hx hb h32 h126 hlt hdg=>
  obtain ⟨hz,e⟩:=at_of h0
  obtain ⟨hz1,e1⟩:=at_of h1
  subst e1
  exact ⟨first_esc r fresh 1 0 2 _ ⟨#[]⟩ 0 0 hz (by rw [e];rfl) (esc_ok r (by omega) hx hb h32 h126 hlt hdg),by omega,by omega⟩
 | thn hf he=>
  rw [back_arr] at he
  obtain ⟨hz,e,h4,_⟩:=ends_then he
  subst hf
  have e1:r[0]=116:=UInt8.toNat_inj.1 e
  exact ⟨first_then r hs hz (by omega) (noPre r hz (by omega)) (by rw [e1];decide +kernel) (by omega) (by omega) he,by omega,h4⟩
 | bar c h0 h36 hi h64 h92 hf h1 h2 h3 hr=>
  rw [back_arr] at hf h1 h2 h3 hr ⊢
  obtain ⟨hz,e⟩:=at_of h0
  subst e
  have h91:r[0].toNat≠91:=fun e=>by
   have e2:r[0]=91:=UInt8.toNat_inj.1 e
   rw [e2] at hi
   revert hi
   decide +kernel
  have hp:=noPre r hz h91
  have hf1:=firstU_at r hz
  obtain ⟨_,hle,hpos,_⟩:=alone_unit r hz
  refine ⟨?_,hpos,hle⟩
  have hT:Tells 93 #[.string r] 1 0 (uw r 0:Nat) (uAt r 0:Nat) ⟨#[]⟩ 0 0:=fun w=>bare_ok r (uAt r 0) _ w hs hf1 h1 h2 h3 hr
  cases fresh with
  | false=>exact first_bare r false _ _ _ _ _ _ _ hs hz h36 hp hi h64 h92 rfl hT
  | true=>exact first_bare2 r _ _ _ _ _ _ _ hs hz h36 hp hi h64 h92 (hf rfl) hT
end Go.Proofs
