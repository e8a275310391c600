/-
  Several texts in one (Kdk Khk Kik).
-/
import Derived.Shelf.Abstract
import Derived.Shelf.RegionOpen
import Derived.WalkKit
import Derived.WalkSpells
import Derived.WalkLawsBesides
import Derived.BigQuiet
import Derived.Deep.QuietTactic
import Derived.Deep.LoopGhost
import Derived.Lib.OthersKept
import Derived.WalkMore
import Derived.Lib.ParseIntB
import Derived.Test.YtknaoahokopplaaGreatDoorMgik
namespace Go.Proofs
open Go.RowKit Go.Shelf
set_option maxRecDepth 100000
attribute [local go_sem] Oper.semAt_some
def dg10 (c:UInt8):Int:=if isDg c then (c.toNat:Int) - 48 else -1
set_option maxHeartbeats 2000000 in
theorem rdigit10_any (c:UInt8) (w:World):Calls Tryz.prog 124 #[.int .u8 c.toNat,.int .i64 10] w fun e w'=>e = .returned (.int .i64 (dg10 c))∧w'=w:=by
 have hc:=c.toNat_lt
 go_enter Tryz.func124,Tryz.ntmps124
 go_wp2
 all_goals (go_ret;refine ⟨?_,rfl⟩;simp [dg10,isDg];omega)
def dg16 (c:UInt8):Int:=if isDg c then (c.toNat:Int) - 48 else if decide (97≤c.toNat) && decide (c.toNat≤102) then (c.toNat:Int) - 87 else if decide (65≤c.toNat) && decide (c.toNat≤70) then (c.toNat:Int) - 55 else -1
set_option maxHeartbeats 2000000 in
theorem rdigit16_any (c:UInt8) (w:World):Calls Tryz.prog 124 #[.int .u8 c.toNat,.int .i64 16] w fun e w'=>e = .returned (.int .i64 (dg16 c))∧w'=w:=by
 have hc:=c.toNat_lt
 go_enter Tryz.func124,Tryz.ntmps124
 go_wp2
 all_goals (go_ret;refine ⟨?_,rfl⟩;simp [dg16,isDg];omega)
def val10:Nat→List UInt8→Nat
 | a,[]=>a
 | a,c::l=>val10 (a*10+(c.toNat - 48)) l
theorem val10_snoc (a:Nat) (l:List UInt8) (c:UInt8):val10 a (l++[c])=val10 a l*10+(c.toNat - 48):=by
 induction l generalizing a with
 | nil=>rfl
 | cons b l ih=>exact ih _
theorem uintM_val:∀ (l:List UInt8) (acc:Nat),(∀ c∈l,isDg c=true)→(acc+1)*10 ^ l.length≤1000000000000000000→Lib.parseUintM (2 ^ 64 - 1) acc l = .ok (val10 acc l)
 | [],acc,_,_=>rfl
 | c::l,acc,h,hb=>by
  have hc:=h c (by simp)
  simp only [isDg,Bool.and_eq_true,decide_eq_true_eq] at hc
  have hb2:(acc*10+(c.toNat - 48)+1)*10 ^ l.length≤(acc+1)*10 ^ (c::l).length:=by
   rw [List.length_cons,Nat.pow_succ,Nat.mul_comm (10 ^ l.length),←Nat.mul_assoc]
   exact Nat.mul_le_mul_right _ (by omega)
  have hp:1≤10 ^ l.length:=Nat.one_le_pow _ _ (by omega)
  have hac:acc+1≤1000000000000000000:=by
   have:(acc+1)*1≤(acc+1)*10 ^ (c::l).length:=Nat.mul_le_mul_left _ (Nat.one_le_pow _ _ (by omega))
   omega
  have h1:=uintM_val l (acc*10+(c.toNat - 48)) (fun x hx=>h x (by simp [hx])) (by omega)
  have hlt:acc*10+(c.toNat - 48)<1000000000000000000:=by
   have:(acc*10+(c.toNat - 48)+1)*1≤(acc*10+(c.toNat - 48)+1)*10 ^ l.length:=Nat.mul_le_mul_left _ hp
   omega
  rw [Lib.parseUintM,if_pos hc,if_neg (by omega),if_neg (by omega)]
  exact h1
theorem int_val (l:List UInt8) (h0:l≠[]) (h:∀ c∈l,isDg c=true) (h9:l.length≤9) (hv:val10 0 l<1000000000000000000):Lib.parseIntB 64 l = .ok (val10 0 l:Int):=by
 cases l with
 | nil=>exact absurd rfl h0
 | cons c l=>
  have hc:=h c (by simp)
  simp only [isDg,Bool.and_eq_true,decide_eq_true_eq] at hc
  have hp:10 ^ (c::l).length≤10 ^ 9:=Nat.pow_le_pow_right (by omega) h9
  have h1:=uintM_val (c::l) 0 h (by omega)
  unfold Lib.parseIntB Lib.parseUintB
  simp only
  rw [if_neg (show ¬ (c.toNat=43∨c.toNat=45) by omega),if_neg (by simp),h1]
  simp only
  rw [if_neg (by omega),if_neg (by omega),if_neg (by omega)]
def CopRel (D:List UInt8) (z p q k m:Nat):Prop:=p+1+k≤z∧q=k+spanN isDg (D.drop (p+1+k))∧m=val10 0 ((D.drop (p+1)).take (min k 10))∧m<10 ^ (min k 10)
set_option maxHeartbeats 2000000 in
theorem rcopied_walk (s:ByteArray) (p q:Nat) (hs:s.size≤1000000) (hp:p+1≤s.size) (hq:spanN isDg (s.data.toList.drop (p+1))=q) (w:World) (R:Ending→World→Prop)
 (h43:(q=0∨9<q∨∃ h:p+1<s.size,s[p+1].toNat=48)→∀ w',Below w.heap.size w w'→R (.returned (.tuple #[tk0,.int .i64 43])) w')
 (hok:0<q→q≤9→(∀ h:p+1<s.size,s[p+1].toNat≠48)→∀ w',Below w.heap.size w w'→R (.returned (.tuple #[tk 3 p (q+1) 0 ⟨#[]⟩ (val10 0 ((s.data.toList.drop (p+1)).take q)),.int .i64 0])) w') :
 Calls Tryz.prog 81 #[.string s,.int .i64 p] w R:=by
 obtain ⟨z,hz⟩:∃ z,s.size=z:=⟨_,rfl⟩
 have H43:Hid ((q=0∨9<q∨∃ h:p+1<s.size,s[p+1].toNat=48)→∀ w',Below w.heap.size w w'→R (.returned (.tuple #[tk0,.int .i64 43])) w'):=h43
 have HOK:Hid (0<q→q≤9→(∀ h:p+1<s.size,s[p+1].toNat≠48)→∀ w',Below w.heap.size w w'→R (.returned (.tuple #[tk 3 p (q+1) 0 ⟨#[]⟩ (val10 0 ((s.data.toList.drop (p+1)).take q)),.int .i64 0])) w'):=hok
 have H0:Hid (CopRel s.data.toList z p q 0 0):=⟨by omega,by simpa using hq.symm,rfl,by decide⟩
 clear h43 hok hq
 go_enter Tryz.func81,Tryz.ntmps81
 go_wp2
 go_loopw [6,7] (fun vi vm wr=>∃ k m:Nat,vi = .int .i64 k∧vm = .int .i64 m∧Hid (CopRel s.data.toList z p q k m)∧wr=w.alloc (.cells #[.int .i64 0,.int .i64 0,.int .i64 0,.int .i64 0,.string ⟨#[]⟩,.int .i64 0] 52)) (fun vi _ _=>z - (intOf vi).toNat)
 case atStart=>exact ⟨0,0,rfl,rfl,H0,rfl⟩
 case round=>
  obtain ⟨k,m,rfl,rfl,HR,rfl⟩:=hrel
  obtain ⟨hk,hS,hm,hml⟩:=HR.out
  have hpI:(p:Int)≤1000000:=by omega
  have hp0:(0:Int)≤(p:Int):=by omega
  have hkI:(k:Int)≤1000000:=by omega
  have hk0:(0:Int)≤(k:Int):=by omega
  have hm10:m<10000000000:=Nat.lt_of_lt_of_le hml (Nat.le_trans (Nat.pow_le_pow_right (by omega) (Nat.min_le_right _ _)) (by decide))
  have hmI:(m:Int)≤10000000000:=by omega
  have hm0:(0:Int)≤(m:Int):=by omega
  by_cases hdig:∃ h:p+1+k<s.size,isDg s[p+1+k]=true
  · obtain ⟨hks,hb⟩:=hdig
    have hlt':(p:Int)+1+(k:Int)<(z:Int):=by omega
    have hS2:=hS
    rw [drop_at hks,spanN_cons,hb] at hS2
    have hbn:=hb
    simp only [isDg,Bool.and_eq_true,decide_eq_true_eq] at hbn
    have hdv:dg10 s[p+1+k]=((s[p+1+k].toNat - 48:Nat):Int):=by simp [dg10,hb];omega
    have hdI:((s[p+1+k].toNat - 48:Nat):Int)≤9:=by omega
    have hd0:(0:Int)≤((s[p+1+k].toNat - 48:Nat):Int):=by omega
    obtain ⟨dd,hdd⟩:∃ dd:Nat,s[p+1+k].toNat - 48=dd:=⟨_,rfl⟩
    rw [hdd] at hdv hdI hd0
    have HD:Hid (dg10 s[p+1+k]=(dd:Int)):=hdv
    by_cases h10:k<10
    · have h10':(k:Int)<10:=by omega
      have H2:Hid (CopRel s.data.toList z p q (k+1) (10*m+dd)):=by
       refine ⟨by omega,?_,?_,?_⟩
       · rw [hS2,show p+1+(k+1)=p+1+k+1 by omega];simp;omega
       · rw [show min (k+1) 10=k+1 by omega]
         have:(s.data.toList.drop (p+1)).take (k+1)=(s.data.toList.drop (p+1)).take k++[s[p+1+k]]:=by
          rw [List.take_succ_eq_append_getElem (by simp;omega)]
          simp [ByteArray.getElem_eq_getElem_data]
         rw [this,val10_snoc,hdd,←show min k 10=k by omega,←hm]
         omega
       · rw [show min (k+1) 10=k+1 by omega,Nat.pow_succ]
         rw [show min k 10=k by omega] at hml
         omega
      clear hS hS2 hm hml HR H0 hbn hb hdv
      go_wp2_with (go_at_call 124;refine (rdigit10_any _ _).mono ?_;rintro e w1 ⟨rfl,rfl⟩;rw [HD.out])
      exact ⟨⟨k+1,10*m+dd,by go_num,by go_num,H2,(by first | rfl | trivial)⟩,by simp [intOf];omega⟩
    · have h10':(10:Int)≤(k:Int):=by omega
      have H2:Hid (CopRel s.data.toList z p q (k+1) m):=by
       refine ⟨by omega,?_,?_,?_⟩
       · rw [hS2,show p+1+(k+1)=p+1+k+1 by omega];simp;omega
       · rw [hm,show min (k+1) 10=min k 10 by omega]
       · rw [show min (k+1) 10=min k 10 by omega];exact hml
      clear hS hS2 hm hml HR H0 hbn hb hdv
      go_wp2_with (go_at_call 124;refine (rdigit10_any _ _).mono ?_;rintro e w1 ⟨rfl,rfl⟩;rw [HD.out])
      exact ⟨⟨k+1,m,by go_num,rfl,H2,(by first | rfl | trivial)⟩,by simp [intOf];omega⟩
  · have hqk:q=k:=by
     by_cases hks:p+1+k<s.size
     · have hb:isDg s[p+1+k]=false:=by
        cases hb:isDg s[p+1+k]
        · rfl
        · exact absurd ⟨hks,hb⟩ hdig
       rw [drop_at hks,spanN_cons,hb] at hS
       simpa using hS
     · rw [List.drop_of_length_le (by simp;omega),spanN_nil] at hS
       omega
    have HBl:Hid (Below w.heap.size w (w.alloc (.cells #[.int .i64 0,.int .i64 0,.int .i64 0,.int .i64 0,.string ⟨#[]⟩,.int .i64 0] 52))):=(Below.refl _ w).alloc (Nat.le_refl _) _
    have HE:Hid (m=val10 0 ((s.data.toList.drop (p+1)).take (min q 10))):=by rw [hqk];exact hm
    have HST:Hid ((p+1+k<s.size→∃ h:p+1+k<s.size,isDg s[p+1+k]=false)):=fun h=>⟨h,by
     cases hb:isDg s[p+1+k]
     · rfl
     · exact absurd ⟨h,hb⟩ hdig⟩
    clear hS hm hml HR H0 hdig
    subst hqk
    by_cases c0:q=0
    · subst c0
      by_cases hks:p+1+0<s.size
      · obtain ⟨_,hb⟩:=HST.out hks
        have hks2:p+1<s.size:=by omega
        have hlt':(p:Int)+1<(z:Int):=by omega
        have HD:Hid (dg10 s[p+1] = -1):=by
         have:isDg s[p+1]=false:=hb
         show _=_
         simp [dg10,this]
        clear hb HST
        go_wp2_with (go_at_call 124;refine (rdigit10_any _ _).mono ?_;rintro e w1 ⟨rfl,rfl⟩;rw [HD.out])
        exact bodyPost_ret (v := .tuple #[tk0,.int .i64 43]) (by simp [results,Tryz.f81,go_sem]) rfl (H43.out (.inl trivial) _ HBl.out)
      · have hlt':(z:Int)≤(p:Int)+1:=by omega
        clear HST
        go_wp2
        exact bodyPost_ret (v := .tuple #[tk0,.int .i64 43]) (by simp [results,Tryz.f81,go_sem]) rfl (H43.out (.inl trivial) _ HBl.out)
    have hq0:(q == 0)=false:=by simpa using c0
    have hq0':((q:Int) == 0)=false:=by simp;omega
    have hp1:p+1<s.size:=by omega
    have hp1':(p:Int)+1<(z:Int):=by omega
    have hcase:9<q∨(q≤9∧s[p+1].toNat=48)∨(q≤9∧s[p+1].toNat≠48):=by omega
    have hq1:(1:Int)≤(q:Int):=by omega
    by_cases hks:p+1+q<s.size
    · obtain ⟨_,hb⟩:=HST.out hks
      have hlt':(p:Int)+1+(q:Int)<(z:Int):=by omega
      have HD:Hid (dg10 s[p+1+q] = -1):=by
       show _=_
       simp [dg10,hb]
      clear hb HST
      rcases hcase with h | ⟨h,h48⟩ | ⟨h,h48⟩
      · have h':(9:Int)<(q:Int):=by omega
        go_wp2_with (go_at_call 124;refine (rdigit10_any _ _).mono ?_;rintro e w1 ⟨rfl,rfl⟩;rw [HD.out])
        exact bodyPost_ret (v := .tuple #[tk0,.int .i64 43]) (by simp [results,Tryz.f81,go_sem]) rfl (H43.out (.inr (.inl h)) _ HBl.out)
      · have h':(q:Int)≤9:=by omega
        go_wp2_with (go_at_call 124;refine (rdigit10_any _ _).mono ?_;rintro e w1 ⟨rfl,rfl⟩;rw [HD.out])
        exact bodyPost_ret (v := .tuple #[tk0,.int .i64 43]) (by simp [results,Tryz.f81,go_sem]) rfl (H43.out (.inr (.inr ⟨hp1,h48⟩)) _ HBl.out)
      · have h':(q:Int)≤9:=by omega
        have h48':((s[p+1].toNat:Int) == 48)=false:=by
         simp only [beq_eq_false_iff_ne,ne_eq]
         omega
        have h9':decide ((9:Int)<(q:Int))=false:=by simp;omega
        have HF:Hid (R (.returned (.tuple #[tk 3 p (q+1) 0 ⟨#[]⟩ m,.int .i64 0])) (w.alloc (.cells #[.int .i64 3,.int .i64 p,.int .i64 (q+1),.int .i64 0,.string ⟨#[]⟩,.int .i64 m] 52))):=by
         have:=HOK.out (by omega) h (fun _=>h48) (w.alloc (.cells #[.int .i64 3,.int .i64 p,.int .i64 (q+1),.int .i64 0,.string ⟨#[]⟩,.int .i64 m] 52)) ((Below.refl _ w).alloc (Nat.le_refl _) _)
         rwa [←show min q 10=q by omega,←HE.out,show min q 10=q by omega] at this
        go_wp2_with (go_at_call 124;refine (rdigit10_any _ _).mono ?_;rintro e w1 ⟨rfl,rfl⟩;rw [HD.out])
        exact bodyPost_ret (v := .tuple #[tk 3 p (q+1) 0 ⟨#[]⟩ m,.int .i64 0]) (by simp [results,Tryz.f81,go_sem]) rfl HF.out
    · have hlt':(z:Int)≤(p:Int)+1+(q:Int):=by omega
      clear HST
      rcases hcase with h | ⟨h,h48⟩ | ⟨h,h48⟩
      · have h':(9:Int)<(q:Int):=by omega
        go_wp2
        exact bodyPost_ret (v := .tuple #[tk0,.int .i64 43]) (by simp [results,Tryz.f81,go_sem]) rfl (H43.out (.inr (.inl h)) _ HBl.out)
      · have h':(q:Int)≤9:=by omega
        go_wp2
        exact bodyPost_ret (v := .tuple #[tk0,.int .i64 43]) (by simp [results,Tryz.f81,go_sem]) rfl (H43.out (.inr (.inr ⟨hp1,h48⟩)) _ HBl.out)
      · have h':(q:Int)≤9:=by omega
        have h48':((s[p+1].toNat:Int) == 48)=false:=by
         simp only [beq_eq_false_iff_ne,ne_eq]
         omega
        have h9':decide ((9:Int)<(q:Int))=false:=by simp;omega
        have HF:Hid (R (.returned (.tuple #[tk 3 p (q+1) 0 ⟨#[]⟩ m,.int .i64 0])) (w.alloc (.cells #[.int .i64 3,.int .i64 p,.int .i64 (q+1),.int .i64 0,.string ⟨#[]⟩,.int .i64 m] 52))):=by
         have:=HOK.out (by omega) h (fun _=>h48) (w.alloc (.cells #[.int .i64 3,.int .i64 p,.int .i64 (q+1),.int .i64 0,.string ⟨#[]⟩,.int .i64 m] 52)) ((Below.refl _ w).alloc (Nat.le_refl _) _)
         rwa [←show min q 10=q by omega,←HE.out,show min q 10=q by omega] at this
        go_wp2
        exact bodyPost_ret (v := .tuple #[tk 3 p (q+1) 0 ⟨#[]⟩ m,.int .i64 0]) (by simp [results,Tryz.f81,go_sem]) rfl HF.out
end Go.Proofs
namespace Go.Proofs
open Go.RowKit Go.Shelf
set_option maxRecDepth 100000
attribute [local go_sem] Oper.semAt_some
set_option maxHeartbeats 2000000 in
theorem rtok_varbad (s:ByteArray) (p n:Nat) (first:Bool) (hs:s.size≤1000000) (hp:p<s.size) (hc:s[p].toNat=36) (hn:spanN isNm (s.data.toList.drop (p+1))=n) (h32:32<n):Tells 45 #[.string s,.int .i64 p,.bool first] 0 0 0 0 ⟨#[]⟩ 0 42:=by
 intro w
 obtain ⟨z,hz⟩:∃ z,s.size=z:=⟨_,rfl⟩
 have hpI:(p:Int)≤1000000:=by omega
 have hp0:(0:Int)≤(p:Int):=by omega
 have hlt:(p:Int)<(z:Int):=by omega
 have HN:Hid (∀ w,Calls Tryz.prog 77 #[.string s,.int .i64 ((p:Int)+1)] w fun e w'=>e = .returned (.int .i64 n)∧w'=w):=fun w=>by
  have:=rname_any s (p+1) w (by omega) (by omega)
  rw [hn] at this
  simpa using this
 have h32':(32:Int)<(n:Int):=by omega
 clear hn
 go_enter Tryz.func45,Tryz.ntmps45
 go_wp2_with (go_at_call 77;refine (HN.out _).mono ?_;rintro e w1 ⟨rfl,rfl⟩)
 exact bodyPost_ret (v := .tuple #[tk0,.int .i64 42]) (by simp [results,Tryz.f45,go_sem]) rfl ⟨rfl,(Below.refl _ _).alloc (Nat.le_refl _) _⟩
set_option maxHeartbeats 2000000 in
theorem rtok_var (s:ByteArray) (p n:Nat) (first:Bool) (hs:s.size≤1000000) (hp:p<s.size) (hc:s[p].toNat=36) (hn:spanN isNm (s.data.toList.drop (p+1))=n) (h0:0<n) (h32:n≤32):Tells 45 #[.string s,.int .i64 p,.bool first] 2 p (n+1) 0 (s.extract p (p+1+n)) 0 0:=by
 intro w
 have hle:p+1+n≤s.size:=by
  have:=spanN_le isNm (s.data.toList.drop (p+1))
  simp at this
  omega
 obtain ⟨z,hz⟩:∃ z,s.size=z:=⟨_,rfl⟩
 have hpI:(p:Int)≤1000000:=by omega
 have hp0:(0:Int)≤(p:Int):=by omega
 have hlt:(p:Int)<(z:Int):=by omega
 have HN:Hid (∀ w,Calls Tryz.prog 77 #[.string s,.int .i64 ((p:Int)+1)] w fun e w'=>e = .returned (.int .i64 n)∧w'=w):=fun w=>by
  have:=rname_any s (p+1) w (by omega) (by omega)
  rw [hn] at this
  simpa using this
 have h32':(n:Int)≤32:=by omega
 have h0':(0:Int)<(n:Int):=by omega
 have hle':(p:Int)+1+(n:Int)≤(z:Int):=by omega
 clear hn
 go_enter Tryz.func45,Tryz.ntmps45
 go_wp2_with (go_at_call 77;refine (HN.out _).mono ?_;rintro e w1 ⟨rfl,rfl⟩)
 exact bodyPost_ret (v := .tuple #[tk 2 p (n+1) 0 (s.extract p (p+1+n)) 0,.int .i64 0]) (by simp [results,Tryz.f45,go_sem]) rfl ⟨rfl,(Below.refl _ _).alloc (Nat.le_refl _) _⟩
set_option maxHeartbeats 2000000 in
theorem rtok_class (s:ByteArray) (p:Nat) (first:Bool) (hs:s.size≤1000000) (hp:p<s.size) (hc:s[p].toNat≠36) (hb:Lib.hasPrefix (s.data.toList.drop p) [91,58]=true) (k a l u:Int) (t:ByteArray) (n e0:Int) (hv:Tells 79 #[.string s,.int .i64 p] k a l u t n e0):Tells 45 #[.string s,.int .i64 p,.bool first] k a l u t n e0:=by
 intro w
 obtain ⟨z,hz⟩:∃ z,s.size=z:=⟨_,rfl⟩
 have hpI:(p:Int)≤1000000:=by omega
 have hp0:(0:Int)≤(p:Int):=by omega
 have hlt:(p:Int)<(z:Int):=by omega
 have h36:((s[p].toNat:Int) == 36)=false:=by simp only [beq_eq_false_iff_ne,ne_eq];omega
 have HB:Hid (∀ w,Calls Tryz.prog 78 #[.string s,.int .i64 p,.string ⟨#[91,58]⟩] w fun e w'=>e = .returned (.bool true)∧w'=w):=fun w=>by
  have:=rbegins_any s ⟨#[91,58]⟩ p w (by omega) (by omega) (by decide)
  simp only [hb] at this
  exact this
 clear hc
 have HV:Hid (Tells 79 #[.string s,.int .i64 p] k a l u t n e0):=hv
 clear hv
 go_enter Tryz.func45,Tryz.ntmps45
 go_wp2_with (first | (go_at_call 78;refine (HB.out _).mono ?_;rintro e w1 ⟨rfl,rfl⟩) | fail)
 refine (HV.out _).mono ?_
 rintro e w1 ⟨rfl,hb1⟩
 have HT:=(TB.new w 0 0 0 0 ⟨#[]⟩ 0).below hb1 (by simp)
 have HB1:Hid (Below w.heap.size w w1):=((Below.refl _ w).alloc (Nat.le_refl _) _).trans (hb1.mono (by simp))
 obtain ⟨c0,c1,c2,c3,c4,c5⟩:=HT.cells
 obtain ⟨f0,f1,f2,f3,f4,f5⟩:=HT.frozen
 clear hb1
 go_wp2
 exact ret_tk rfl rfl rfl (HT.set k a l u t n) ⟨rfl,below_set6 HB1.out (Nat.le_refl _) _ _ _ _ _ _⟩
set_option maxHeartbeats 2000000 in
theorem rtok_copy (s:ByteArray) (p:Nat) (first:Bool) (hs:s.size≤1000000) (hp:p<s.size) (hc:s[p].toNat=64) (hb:Lib.hasPrefix (s.data.toList.drop p) [91,58]=false) (hi:Lib.indexByte sgnL s[p] = -1) (k a l u:Int) (t:ByteArray) (n e0:Int) (hv:Tells 81 #[.string s,.int .i64 p] k a l u t n e0):Tells 45 #[.string s,.int .i64 p,.bool first] k a l u t n e0:=by
 intro w
 obtain ⟨z,hz⟩:∃ z,s.size=z:=⟨_,rfl⟩
 have hpI:(p:Int)≤1000000:=by omega
 have hp0:(0:Int)≤(p:Int):=by omega
 have hlt:(p:Int)<(z:Int):=by omega
 have h36:((s[p].toNat:Int) == 36)=false:=by simp [hc]
 have h64:((s[p].toNat:Int) == 64)=true:=by simp [hc]
 have HB:Hid (∀ w,Calls Tryz.prog 78 #[.string s,.int .i64 p,.string ⟨#[91,58]⟩] w fun e w'=>e = .returned (.bool false)∧w'=w):=fun w=>by
  have:=rbegins_any s ⟨#[91,58]⟩ p w (by omega) (by omega) (by decide)
  simp only [hb] at this
  exact this
 have HI:Hid (∀ w,Calls Tryz.prog 80 #[.int .u8 s[p].toNat,.string ⟨#[62,59,123,125,124,94,36,46,91,93,45,61,58]⟩] w fun e w'=>e = .returned (.int .i64 (-1))∧w'=w):=fun w=>by
  have:=rin_any s[p] ⟨#[62,59,123,125,124,94,36,46,91,93,45,61,58]⟩ w (by decide)
  rw [show (⟨#[62,59,123,125,124,94,36,46,91,93,45,61,58]⟩:ByteArray).data.toList=sgnL from rfl,hi] at this
  exact this
 clear hc hi
 have HV:Hid (Tells 81 #[.string s,.int .i64 p] k a l u t n e0):=hv
 clear hv
 go_enter Tryz.func45,Tryz.ntmps45
 go_wp2_with (first | (go_at_call 78;refine (HB.out _).mono ?_;rintro e w1 ⟨rfl,rfl⟩)| (go_at_call 80;refine (HI.out _).mono ?_;rintro e w1 ⟨rfl,rfl⟩) | fail)
 refine (HV.out _).mono ?_
 rintro e w1 ⟨rfl,hb1⟩
 have HT:=(TB.new w 0 0 0 0 ⟨#[]⟩ 0).below hb1 (by simp)
 have HB1:Hid (Below w.heap.size w w1):=((Below.refl _ w).alloc (Nat.le_refl _) _).trans (hb1.mono (by simp))
 obtain ⟨c0,c1,c2,c3,c4,c5⟩:=HT.cells
 obtain ⟨f0,f1,f2,f3,f4,f5⟩:=HT.frozen
 clear hb1
 go_wp2
 exact ret_tk rfl rfl rfl (HT.set k a l u t n) ⟨rfl,below_set6 HB1.out (Nat.le_refl _) _ _ _ _ _ _⟩
set_option maxHeartbeats 2000000 in
theorem rtok_esc (s:ByteArray) (p:Nat) (first:Bool) (hs:s.size≤1000000) (hp:p<s.size) (hc:s[p].toNat=92) (hb:Lib.hasPrefix (s.data.toList.drop p) [91,58]=false) (hi:Lib.indexByte sgnL s[p] = -1) (k a l u:Int) (t:ByteArray) (n e0:Int) (hv:Tells 82 #[.string s,.int .i64 p] k a l u t n e0):Tells 45 #[.string s,.int .i64 p,.bool first] k a l u t n e0:=by
 intro w
 obtain ⟨z,hz⟩:∃ z,s.size=z:=⟨_,rfl⟩
 have hpI:(p:Int)≤1000000:=by omega
 have hp0:(0:Int)≤(p:Int):=by omega
 have hlt:(p:Int)<(z:Int):=by omega
 have h36:((s[p].toNat:Int) == 36)=false:=by simp [hc]
 have h64:((s[p].toNat:Int) == 64)=false:=by simp [hc]
 have h92:((s[p].toNat:Int) == 92)=true:=by simp [hc]
 have HB:Hid (∀ w,Calls Tryz.prog 78 #[.string s,.int .i64 p,.string ⟨#[91,58]⟩] w fun e w'=>e = .returned (.bool false)∧w'=w):=fun w=>by
  have:=rbegins_any s ⟨#[91,58]⟩ p w (by omega) (by omega) (by decide)
  simp only [hb] at this
  exact this
 have HI:Hid (∀ w,Calls Tryz.prog 80 #[.int .u8 s[p].toNat,.string ⟨#[62,59,123,125,124,94,36,46,91,93,45,61,58]⟩] w fun e w'=>e = .returned (.int .i64 (-1))∧w'=w):=fun w=>by
  have:=rin_any s[p] ⟨#[62,59,123,125,124,94,36,46,91,93,45,61,58]⟩ w (by decide)
  rw [show (⟨#[62,59,123,125,124,94,36,46,91,93,45,61,58]⟩:ByteArray).data.toList=sgnL from rfl,hi] at this
  exact this
 clear hc hi
 have HV:Hid (Tells 82 #[.string s,.int .i64 p] k a l u t n e0):=hv
 clear hv
 go_enter Tryz.func45,Tryz.ntmps45
 go_wp2_with (first | (go_at_call 78;refine (HB.out _).mono ?_;rintro e w1 ⟨rfl,rfl⟩)| (go_at_call 80;refine (HI.out _).mono ?_;rintro e w1 ⟨rfl,rfl⟩) | fail)
 refine (HV.out _).mono ?_
 rintro e w1 ⟨rfl,hb1⟩
 have HT:=(TB.new w 0 0 0 0 ⟨#[]⟩ 0).below hb1 (by simp)
 have HB1:Hid (Below w.heap.size w w1):=((Below.refl _ w).alloc (Nat.le_refl _) _).trans (hb1.mono (by simp))
 obtain ⟨c0,c1,c2,c3,c4,c5⟩:=HT.cells
 obtain ⟨f0,f1,f2,f3,f4,f5⟩:=HT.frozen
 clear hb1
 go_wp2
 exact ret_tk rfl rfl rfl (HT.set k a l u t n) ⟨rfl,below_set6 HB1.out (Nat.le_refl _) _ _ _ _ _ _⟩
end Go.Proofs
namespace Go.Proofs
open Go.RowKit Go.Shelf
set_option maxRecDepth 100000
attribute [local go_sem] Oper.semAt_some
set_option maxHeartbeats 2000000 in
theorem rtok_sign (s:ByteArray) (p i:Nat) (first:Bool) (hs:s.size≤1000000) (hp:p<s.size) (hc:s[p].toNat≠36) (hb:Lib.hasPrefix (s.data.toList.drop p) [91,58]=false) (hi:Lib.indexByte sgnL s[p]=(i:Int)) (hi13:i<13):Tells 45 #[.string s,.int .i64 p,.bool first] (10+i) p 1 0 ⟨#[]⟩ 0 0:=by
 intro w
 obtain ⟨z,hz⟩:∃ z,s.size=z:=⟨_,rfl⟩
 have hpI:(p:Int)≤1000000:=by omega
 have hp0:(0:Int)≤(p:Int):=by omega
 have hlt:(p:Int)<(z:Int):=by omega
 have h36:((s[p].toNat:Int) == 36)=false:=by simp only [beq_eq_false_iff_ne,ne_eq];omega
 have HB:Hid (∀ w,Calls Tryz.prog 78 #[.string s,.int .i64 p,.string ⟨#[91,58]⟩] w fun e w'=>e = .returned (.bool false)∧w'=w):=fun w=>by
  have:=rbegins_any s ⟨#[91,58]⟩ p w (by omega) (by omega) (by decide)
  simp only [hb] at this
  exact this
 have HI:Hid (∀ w,Calls Tryz.prog 80 #[.int .u8 s[p].toNat,.string ⟨#[62,59,123,125,124,94,36,46,91,93,45,61,58]⟩] w fun e w'=>e = .returned (.int .i64 i)∧w'=w):=fun w=>by
  have:=rin_any s[p] ⟨#[62,59,123,125,124,94,36,46,91,93,45,61,58]⟩ w (by decide)
  rw [show (⟨#[62,59,123,125,124,94,36,46,91,93,45,61,58]⟩:ByteArray).data.toList=sgnL from rfl,hi] at this
  exact this
 have hiI:(i:Int)≤13:=by omega
 have hi0:(0:Int)≤(i:Int):=by omega
 clear hc hi
 go_enter Tryz.func45,Tryz.ntmps45
 go_wp2_with (first | (go_at_call 78;refine (HB.out _).mono ?_;rintro e w1 ⟨rfl,rfl⟩) | (go_at_call 80;refine (HI.out _).mono ?_;rintro e w1 ⟨rfl,rfl⟩))
 exact bodyPost_ret (v := .tuple #[tk (10+i) p 1 0 ⟨#[]⟩ 0,.int .i64 0]) (by simp [results,Tryz.f45,go_sem]) rfl ⟨rfl,(Below.refl _ _).alloc (Nat.le_refl _) _⟩
set_option maxHeartbeats 2000000 in
theorem rtok_sign36 (s:ByteArray) (p:Nat) (first:Bool) (hs:s.size≤1000000) (hp:p<s.size) (hc:s[p].toNat=36) (hn:spanN isNm (s.data.toList.drop (p+1))=0) (hb:Lib.hasPrefix (s.data.toList.drop p) [91,58]=false) (hi:Lib.indexByte sgnL s[p]=6):Tells 45 #[.string s,.int .i64 p,.bool first] 16 p 1 0 ⟨#[]⟩ 0 0:=by
 intro w
 obtain ⟨n,hn0⟩:∃ n:Nat,n=0:=⟨_,rfl⟩
 rw [←hn0] at hn
 obtain ⟨z,hz⟩:∃ z,s.size=z:=⟨_,rfl⟩
 have hpI:(p:Int)≤1000000:=by omega
 have hp0:(0:Int)≤(p:Int):=by omega
 have hlt:(p:Int)<(z:Int):=by omega
 have HN:Hid (∀ w,Calls Tryz.prog 77 #[.string s,.int .i64 ((p:Int)+1)] w fun e w'=>e = .returned (.int .i64 n)∧w'=w):=fun w=>by
  have:=rname_any s (p+1) w (by omega) (by omega)
  rw [hn] at this
  simpa using this
 have HB:Hid (∀ w,Calls Tryz.prog 78 #[.string s,.int .i64 p,.string ⟨#[91,58]⟩] w fun e w'=>e = .returned (.bool false)∧w'=w):=fun w=>by
  have:=rbegins_any s ⟨#[91,58]⟩ p w (by omega) (by omega) (by decide)
  simp only [hb] at this
  exact this
 have HI:Hid (∀ w,Calls Tryz.prog 80 #[.int .u8 s[p].toNat,.string ⟨#[62,59,123,125,124,94,36,46,91,93,45,61,58]⟩] w fun e w'=>e = .returned (.int .i64 6)∧w'=w):=fun w=>by
  have:=rin_any s[p] ⟨#[62,59,123,125,124,94,36,46,91,93,45,61,58]⟩ w (by decide)
  rw [show (⟨#[62,59,123,125,124,94,36,46,91,93,45,61,58]⟩:ByteArray).data.toList=sgnL from rfl,hi] at this
  exact this
 have h36:((s[p].toNat:Int) == 36)=true:=by simp [hc]
 subst hn0
 clear hc hi hn
 go_enter Tryz.func45,Tryz.ntmps45
 go_wp2_with (first | (go_at_call 77;refine (HN.out _).mono ?_;rintro e w1 ⟨rfl,rfl⟩) | (go_at_call 78;refine (HB.out _).mono ?_;rintro e w1 ⟨rfl,rfl⟩) | (go_at_call 80;refine (HI.out _).mono ?_;rintro e w1 ⟨rfl,rfl⟩))
 exact bodyPost_ret (v := .tuple #[tk 16 p 1 0 ⟨#[]⟩ 0,.int .i64 0]) (by simp [results,Tryz.f45,go_sem]) rfl ⟨rfl,(Below.refl _ _).alloc (Nat.le_refl _) _⟩
set_option maxHeartbeats 2000000 in
theorem rtok_then (s:ByteArray) (p q:Nat) (hs:s.size≤1000000) (hp:p<s.size) (hc:s[p].toNat≠36∧s[p].toNat≠64∧s[p].toNat≠92) (hb:Lib.hasPrefix (s.data.toList.drop p) [91,58]=false) (hi:Lib.indexByte sgnL s[p] = -1) (ht:Lib.hasPrefix (s.data.toList.drop p) [116,104,101,110]=true) (h4:p+4≤s.size) (hq:p+4+pastN false (s.data.toList.drop (p+4))=q) (he:Lib.hasPrefix (s.data.toList.drop q) [59]=true):Tells 45 #[.string s,.int .i64 p,.bool true] 2 p 4 0 ⟨#[116,104,101,110]⟩ 0 0:=by
 intro w
 have hqz:q≤s.size:=by
  have:=pastN_le false (s.data.toList.drop (p+4))
  simp at this
  omega
 obtain ⟨z,hz⟩:∃ z,s.size=z:=⟨_,rfl⟩
 have hpI:(p:Int)≤1000000:=by omega
 have hp0:(0:Int)≤(p:Int):=by omega
 have hlt:(p:Int)<(z:Int):=by omega
 have h36:((s[p].toNat:Int) == 36)=false:=by simp only [beq_eq_false_iff_ne,ne_eq];omega
 have h64:((s[p].toNat:Int) == 64)=false:=by simp only [beq_eq_false_iff_ne,ne_eq];omega
 have h92:((s[p].toNat:Int) == 92)=false:=by simp only [beq_eq_false_iff_ne,ne_eq];omega
 have HB:Hid (∀ w,Calls Tryz.prog 78 #[.string s,.int .i64 p,.string ⟨#[91,58]⟩] w fun e w'=>e = .returned (.bool false)∧w'=w):=fun w=>by
  have:=rbegins_any s ⟨#[91,58]⟩ p w (by omega) (by omega) (by decide)
  simp only [hb] at this
  exact this
 have HI:Hid (∀ w,Calls Tryz.prog 80 #[.int .u8 s[p].toNat,.string ⟨#[62,59,123,125,124,94,36,46,91,93,45,61,58]⟩] w fun e w'=>e = .returned (.int .i64 (-1))∧w'=w):=fun w=>by
  have:=rin_any s[p] ⟨#[62,59,123,125,124,94,36,46,91,93,45,61,58]⟩ w (by decide)
  rw [show (⟨#[62,59,123,125,124,94,36,46,91,93,45,61,58]⟩:ByteArray).data.toList=sgnL from rfl,hi] at this
  exact this
 have HT:Hid (∀ w,Calls Tryz.prog 78 #[.string s,.int .i64 p,.string ⟨#[116,104,101,110]⟩] w fun e w'=>e = .returned (.bool true)∧w'=w):=fun w=>by
  have:=rbegins_any s ⟨#[116,104,101,110]⟩ p w (by omega) (by omega) (by decide)
  simp only [ht] at this
  exact this
 have HO:Hid (∀ w,Calls Tryz.prog 44 #[.string s,.int .i64 ((p:Int)+4)] w fun e w'=>e = .returned (.int .i64 q)∧w'=w):=fun w=>by
  have:=rover_any s (p+4) w (by unfold maxLen;omega) h4
  rw [hq] at this
  simpa using this
 have HE:Hid (∀ w,Calls Tryz.prog 78 #[.string s,.int .i64 q,.string ⟨#[59]⟩] w fun e w'=>e = .returned (.bool true)∧w'=w):=fun w=>by
  have:=rbegins_any s ⟨#[59]⟩ q w (by omega) hqz (by decide)
  simp only [he] at this
  exact this
 clear hc hi hq
 go_enter Tryz.func45,Tryz.ntmps45
 go_wp2_with fail
 refine (HB.out _).mono ?_
 rintro e w1 ⟨rfl,rfl⟩
 go_wp2_with fail
 refine (HI.out _).mono ?_
 rintro e w2 ⟨rfl,rfl⟩
 go_wp2_with fail
 refine (HT.out _).mono ?_
 rintro e w3 ⟨rfl,rfl⟩
 go_wp2_with fail
 refine (HO.out _).mono ?_
 rintro e w4 ⟨rfl,rfl⟩
 go_wp2_with fail
 refine (HE.out _).mono ?_
 rintro e w5 ⟨rfl,rfl⟩
 go_wp2
 exact bodyPost_ret (v := .tuple #[tk 2 p 4 0 ⟨#[116,104,101,110]⟩ 0,.int .i64 0]) (by simp [results,Tryz.f45,go_sem]) rfl ⟨rfl,(Below.refl _ _).alloc (Nat.le_refl _) _⟩
end Go.Proofs
