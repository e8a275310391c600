/-
  Several texts in one (Kek Kfk).
-/
import Derived.Shelf.Abstract
import Derived.Shelf.RegionOpen
import Derived.WalkKit
import Derived.WalkSpells
import Derived.WalkLawsBesides
import Derived.BigQuiet
import Derived.Deep.QuietTactic
import Derived.Deep.LoopGhost
import Derived.Lib.OthersKept
import Derived.WalkMore
import Derived.Lib.ParseIntB
import Derived.Test.YtknaoahokopplaaGreatDoorMgjk
namespace Go.Proofs
open Go.RowKit Go.Shelf
set_option maxRecDepth 100000
attribute [local go_sem] Oper.semAt_some
theorem dg16_nat (c:UInt8) (h:isHx c=true):dg16 c=((dg16 c).toNat:Int)∧(dg16 c).toNat≤15:=by
 simp only [isHx,isDg,Bool.or_eq_true,Bool.and_eq_true,decide_eq_true_eq] at h
 unfold dg16
 simp only [isDg,Bool.and_eq_true,decide_eq_true_eq]
 split
 · omega
 · split
   · omega
   · split <;> omega
theorem dg16_no (c:UInt8) (h:isHx c=false):dg16 c = -1:=by
 cases hd:isDg c
 · simp only [isHx,hd,Bool.false_or,Bool.or_eq_false_iff] at h
   simp [dg16,hd,h.1,h.2]
 · simp [isHx,hd] at h
def val16:Nat→List UInt8→Nat
 | a,[]=>a
 | a,c::l=>val16 (a*16+(dg16 c).toNat) l
theorem val16_snoc (a:Nat) (l:List UInt8) (c:UInt8):val16 a (l++[c])=val16 a l*16+(dg16 c).toNat:=by
 induction l generalizing a with
 | nil=>rfl
 | cons b l ih=>exact ih _
set_option maxHeartbeats 1000000 in
theorem resc_end (s:ByteArray) (p:Nat) (hs:s.size≤1000000) (hp:p+1=s.size):Tells 82 #[.string s,.int .i64 p] 0 0 0 0 ⟨#[]⟩ 0 44:=by
 intro w
 obtain ⟨z,hz⟩:∃ z,s.size=z:=⟨_,rfl⟩
 have hpI:(p:Int)≤1000000:=by omega
 have hp0:(0:Int)≤(p:Int):=by omega
 have he:(p:Int)+1=(z:Int):=by omega
 go_enter Tryz.func82,Tryz.ntmps82
 go_wp2
 exact bodyPost_ret (v := .tuple #[tk0,.int .i64 44]) (by simp [results,Tryz.f82,go_sem]) rfl ⟨rfl,(Below.refl _ _).alloc (Nat.le_refl _) _⟩
set_option maxHeartbeats 2000000 in
theorem resc_plain (s:ByteArray) (p:Nat) (hs:s.size≤1000000) (hp:p+1<s.size) (hx:s[p+1].toNat≠120) (hb:s[p+1].toNat≠98) :
 if s[p+1].toNat<32∨126<s[p+1].toNat∨(s[p+1].toNat≠95∧isNm s[p+1]=true) then Tells 82 #[.string s,.int .i64 p] 0 0 0 0 ⟨#[]⟩ 0 41 else Tells 82 #[.string s,.int .i64 p] 1 p 2 s[p+1].toNat ⟨#[]⟩ 0 0:=by
 obtain ⟨z,hz⟩:∃ z,s.size=z:=⟨_,rfl⟩
 have hpI:(p:Int)≤1000000:=by omega
 have hp0:(0:Int)≤(p:Int):=by omega
 have hlt:(p:Int)+1<(z:Int):=by omega
 have hne:((p:Int)+1 == (z:Int))=false:=by simp;omega
 have hx':((s[p+1].toNat:Int) == 120)=false:=by simp only [beq_eq_false_iff_ne,ne_eq];omega
 have hx2:((s[p+1].toNat:Int) != 120)=true:=by simp only [bne_iff_ne,ne_eq];omega
 have hb2:((s[p+1].toNat:Int) != 98)=true:=by simp only [bne_iff_ne,ne_eq];omega
 by_cases h32:s[p+1].toNat<32
 · rw [if_pos (.inl h32)]
   intro w
   have h32':(s[p+1].toNat:Int)<32:=by omega
   go_enter Tryz.func82,Tryz.ntmps82
   go_wp2
   exact bodyPost_ret (v := .tuple #[tk0,.int .i64 41]) (by simp [results,Tryz.f82,go_sem]) rfl ⟨rfl,(Below.refl _ _).alloc (Nat.le_refl _) _⟩
 have h32':(32:Int)≤(s[p+1].toNat:Int):=by omega
 by_cases h126:126<s[p+1].toNat
 · rw [if_pos (.inr (.inl h126))]
   intro w
   have h126':(126:Int)<(s[p+1].toNat:Int):=by omega
   go_enter Tryz.func82,Tryz.ntmps82
   go_wp2
   exact bodyPost_ret (v := .tuple #[tk0,.int .i64 41]) (by simp [results,Tryz.f82,go_sem]) rfl ⟨rfl,(Below.refl _ _).alloc (Nat.le_refl _) _⟩
 have h126':(s[p+1].toNat:Int)≤126:=by omega
 by_cases h95:s[p+1].toNat=95
 · rw [if_neg (by omega)]
   intro w
   have h95':((s[p+1].toNat:Int) != 95)=false:=by simp [h95]
   go_enter Tryz.func82,Tryz.ntmps82
   go_wp2
   exact bodyPost_ret (v := .tuple #[tk 1 p 2 s[p+1].toNat ⟨#[]⟩ 0,.int .i64 0]) (by simp [results,Tryz.f82,go_sem,h95]) rfl ⟨rfl,(Below.refl _ _).alloc (Nat.le_refl _) _⟩
 have h95':((s[p+1].toNat:Int) != 95)=true:=by simp only [bne_iff_ne,ne_eq];omega
 cases hnm:isNm s[p+1]
 · rw [if_neg (by simp;omega)]
   intro w
   go_enter Tryz.func82,Tryz.ntmps82
   go_wp2_with (go_at_call 123;refine (rnamed_any _ _).mono ?_;rintro e w1 ⟨rfl,rfl⟩;rw [hnm])
   exact bodyPost_ret (v := .tuple #[tk 1 p 2 s[p+1].toNat ⟨#[]⟩ 0,.int .i64 0]) (by simp [results,Tryz.f82,go_sem]) rfl ⟨rfl,(Below.refl _ _).alloc (Nat.le_refl _) _⟩
 · rw [if_pos (.inr (.inr ⟨h95,rfl⟩))]
   intro w
   go_enter Tryz.func82,Tryz.ntmps82
   go_wp2_with (go_at_call 123;refine (rnamed_any _ _).mono ?_;rintro e w1 ⟨rfl,rfl⟩;rw [hnm])
   exact bodyPost_ret (v := .tuple #[tk0,.int .i64 41]) (by simp [results,Tryz.f82,go_sem]) rfl ⟨rfl,(Below.refl _ _).alloc (Nat.le_refl _) _⟩
set_option maxHeartbeats 2000000 in
theorem resc_xend (s:ByteArray) (p:Nat) (hs:s.size≤1000000) (hp:p+1<s.size) (hc:s[p+1].toNat=120) (h2:p+2=s.size):Tells 82 #[.string s,.int .i64 p] 0 0 0 0 ⟨#[]⟩ 0 44:=by
 obtain ⟨z,hz⟩:∃ z,s.size=z:=⟨_,rfl⟩
 have hpI:(p:Int)≤1000000:=by omega
 have hp0:(0:Int)≤(p:Int):=by omega
 have hlt:(p:Int)+1<(z:Int):=by omega
 have hne:((p:Int)+1 == (z:Int))=false:=by simp;omega
 have he:(p:Int)+2=(z:Int):=by omega
 intro w
 go_enter Tryz.func82,Tryz.ntmps82
 go_wp2
 exact bodyPost_ret (v := .tuple #[tk0,.int .i64 44]) (by simp [results,Tryz.f82,go_sem]) rfl ⟨rfl,(Below.refl _ _).alloc (Nat.le_refl _) _⟩
set_option maxHeartbeats 2000000 in
theorem resc_xno (s:ByteArray) (p:Nat) (hs:s.size≤1000000) (hp:p+2<s.size) (hc:s[p+1].toNat=120) (h2:s[p+2].toNat≠123):Tells 82 #[.string s,.int .i64 p] 0 0 0 0 ⟨#[]⟩ 0 41:=by
 obtain ⟨z,hz⟩:∃ z,s.size=z:=⟨_,rfl⟩
 have hpI:(p:Int)≤1000000:=by omega
 have hp0:(0:Int)≤(p:Int):=by omega
 have hlt:(p:Int)+1<(z:Int):=by omega
 have hne:((p:Int)+1 == (z:Int))=false:=by simp;omega
 have he:((p:Int)+2 == (z:Int))=false:=by simp;omega
 have hlt2:(p:Int)+2<(z:Int):=by omega
 have h2':((s[p+2].toNat:Int) == 123)=false:=by simp only [beq_eq_false_iff_ne,ne_eq];omega
 have h2b:((s[p+2].toNat:Int) != 123)=true:=by simp only [bne_iff_ne,ne_eq];omega
 intro w
 go_enter Tryz.func82,Tryz.ntmps82
 go_wp2
 go_loopw [8,9] (fun vn vu wr=>vn = .int .i64 0∧vu = .int .i64 0∧wr=w.alloc (.cells #[.int .i64 0,.int .i64 0,.int .i64 0,.int .i64 0,.string ⟨#[]⟩,.int .i64 0] 52)) (fun _ _ _=>0)
 case atStart=>exact ⟨rfl,rfl,rfl⟩
 case round=>
  obtain ⟨rfl,rfl,rfl⟩:=hrel
  go_wp2
  exact bodyPost_ret (v := .tuple #[tk0,.int .i64 41]) (by simp [results,Tryz.f82,go_sem]) rfl ⟨rfl,(Below.refl _ _).alloc (Nat.le_refl _) _⟩
set_option maxHeartbeats 2000000 in
theorem resc_bend (s:ByteArray) (p:Nat) (hs:s.size≤1000000) (hp:p+1<s.size) (hc:s[p+1].toNat=98) (h2:p+2=s.size):Tells 82 #[.string s,.int .i64 p] 0 0 0 0 ⟨#[]⟩ 0 44:=by
 obtain ⟨z,hz⟩:∃ z,s.size=z:=⟨_,rfl⟩
 have hpI:(p:Int)≤1000000:=by omega
 have hp0:(0:Int)≤(p:Int):=by omega
 have hlt:(p:Int)+1<(z:Int):=by omega
 have hne:((p:Int)+1 == (z:Int))=false:=by simp;omega
 have he:(p:Int)+2=(z:Int):=by omega
 intro w
 go_enter Tryz.func82,Tryz.ntmps82
 go_wp2
 exact bodyPost_ret (v := .tuple #[tk0,.int .i64 44]) (by simp [results,Tryz.f82,go_sem]) rfl ⟨rfl,(Below.refl _ _).alloc (Nat.le_refl _) _⟩
set_option maxHeartbeats 2000000 in
theorem resc_bno (s:ByteArray) (p:Nat) (hs:s.size≤1000000) (hp:p+2<s.size) (hc:s[p+1].toNat=98) (h2:s[p+2].toNat≠123):Tells 82 #[.string s,.int .i64 p] 0 0 0 0 ⟨#[]⟩ 0 41:=by
 obtain ⟨z,hz⟩:∃ z,s.size=z:=⟨_,rfl⟩
 have hpI:(p:Int)≤1000000:=by omega
 have hp0:(0:Int)≤(p:Int):=by omega
 have hlt:(p:Int)+1<(z:Int):=by omega
 have hne:((p:Int)+1 == (z:Int))=false:=by simp;omega
 have he:((p:Int)+2 == (z:Int))=false:=by simp;omega
 have hlt2:(p:Int)+2<(z:Int):=by omega
 have h2':((s[p+2].toNat:Int) == 123)=false:=by simp only [beq_eq_false_iff_ne,ne_eq];omega
 have h2b:((s[p+2].toNat:Int) != 123)=true:=by simp only [bne_iff_ne,ne_eq];omega
 intro w
 go_enter Tryz.func82,Tryz.ntmps82
 go_wp2
 go_loopw [8,9] (fun vn vu wr=>vn = .int .i64 0∧vu = .int .i64 0∧wr=w.alloc (.cells #[.int .i64 0,.int .i64 0,.int .i64 0,.int .i64 0,.string ⟨#[]⟩,.int .i64 0] 52)) (fun _ _ _=>0)
 case atStart=>exact ⟨rfl,rfl,rfl⟩
 case round=>
  obtain ⟨rfl,rfl,rfl⟩:=hrel
  go_wp2
  exact bodyPost_ret (v := .tuple #[tk0,.int .i64 41]) (by simp [results,Tryz.f82,go_sem]) rfl ⟨rfl,(Below.refl _ _).alloc (Nat.le_refl _) _⟩
end Go.Proofs
namespace Go.Proofs
open Go.RowKit Go.Shelf
set_option maxRecDepth 100000
attribute [local go_sem] Oper.semAt_some
theorem wd_1 {u:Int} (h:(0≤u∧u≤127)∨(1114240≤u∧u≤1114367)):wd u=1:=by
 unfold wd Lib.runeLen
 repeat' split
 all_goals omega
theorem wd_2 {u:Int} (h:128≤u∧u≤2047):wd u=2:=by
 unfold wd Lib.runeLen
 repeat' split
 all_goals omega
theorem wd_3 {u:Int} (h:2048≤u∧u≤65535∧(u<55296∨57343<u)):wd u=3:=by
 unfold wd Lib.runeLen
 repeat' split
 all_goals omega
theorem wd_4 {u:Int} (h:65536≤u∧u≤1114111):wd u=4:=by
 unfold wd Lib.runeLen
 repeat' split
 all_goals omega
set_option maxHeartbeats 1000000 in
theorem rwidth_any (u:Int) (w:World):Calls Tryz.prog 125 #[.int .i64 u] w fun e w'=>e = .returned (.int .i64 (wd u))∧w'=w:=by
 go_enter Tryz.func125,Tryz.ntmps125
 go_wp2
 all_goals (go_ret;refine ⟨?_,rfl⟩;first | (rw [wd_1 (by omega)];rfl) | (rw [wd_2 (by omega)];rfl) | (rw [wd_3 (by omega)];rfl) | (rw [wd_4 (by omega)];rfl) | (rw [wd_no (by omega) (by omega)];rfl))
def EscRel (D:List UInt8) (z p most q k u:Nat):Prop:=p+3+k≤z∧k≤most∧q=k+spanN isHx (D.drop (p+3+k))∧u=val16 0 ((D.drop (p+3)).take k)∧u<16 ^ k
theorem EscRel.next {s:ByteArray} {z p most q k u:Nat} (hz:s.size=z) (h:EscRel s.data.toList z p most q k u) (hk:k<most) (hlt:p+3+k<s.size) (hb:isHx s[p+3+k]=true):EscRel s.data.toList z p most q (k+1) (16*u+(dg16 s[p+3+k]).toNat):=by
 obtain ⟨h1,h2,h3,h4,h5⟩:=h
 have hd:=(dg16_nat _ hb).2
 rw [drop_at hlt,spanN_cons,hb] at h3
 refine ⟨by omega,by omega,?_,?_,?_⟩
 · rw [h3,show p+3+(k+1)=p+3+k+1 by omega];simp;omega
 · have:(s.data.toList.drop (p+3)).take (k+1)=(s.data.toList.drop (p+3)).take k++[s[p+3+k]]:=by
    rw [List.take_succ_eq_append_getElem (by simp;omega)]
    simp [ByteArray.getElem_eq_getElem_data]
   rw [this,val16_snoc,←h4]
   omega
 · rw [Nat.pow_succ]
   omega
theorem EscRel.stop {s:ByteArray} {z p most q k u:Nat} (hz:s.size=z) (h:EscRel s.data.toList z p most q k u) (hs:k=most∨∀ hlt:p+3+k<s.size,isHx s[p+3+k]=false):k=min most q:=by
 obtain ⟨h1,h2,h3,h4,h5⟩:=h
 rcases hs with rfl | hs
 · omega
 · by_cases hlt:p+3+k<s.size
   · rw [drop_at hlt,spanN_cons,hs hlt] at h3
     simp at h3
     omega
   · rw [List.drop_of_length_le (by simp;omega),spanN_nil] at h3
     omega
set_option maxHeartbeats 4000000 in
theorem resc_xwalk (s:ByteArray) (p q:Nat) (hs:s.size≤1000000) (hp:p+2<s.size) (hc:s[p+1].toNat=120) (h2:s[p+2].toNat=123) (hq:spanN isHx (s.data.toList.drop (p+3))=q) (w:World) (R:Ending→World→Prop)
 (n u:Nat) (hn:n=min 6 q) (hu:u=val16 0 ((s.data.toList.drop (p+3)).take n))
 (h44:p+3+n=s.size→∀ w',Below w.heap.size w w'→R (.returned (.tuple #[tk0,.int .i64 44])) w')
 (h41:(∃ h:p+3+n<s.size,s[p+3+n].toNat≠125∨n=0∨1114111<u∨wd u=0)→∀ w',Below w.heap.size w w'→R (.returned (.tuple #[tk0,.int .i64 41])) w')
 (hok:∀ h:p+3+n<s.size,s[p+3+n].toNat=125→n≠0→¬ (1114111<u∨wd u=0)→∀ w',Below w.heap.size w w'→R (.returned (.tuple #[tk 1 p (n+4) ((u:Int)) ⟨#[]⟩ 0,.int .i64 0])) w') :
 Calls Tryz.prog 82 #[.string s,.int .i64 p] w R:=by
 obtain ⟨z,hz⟩:∃ z,s.size=z:=⟨_,rfl⟩
 have hpI:(p:Int)≤1000000:=by omega
 have hp0:(0:Int)≤(p:Int):=by omega
 have hlt:(p:Int)+1<(z:Int):=by omega
 have hne:((p:Int)+1 == (z:Int))=false:=by simp;omega
 have he:((p:Int)+2 == (z:Int))=false:=by simp;omega
 have hlt2:(p:Int)+2<(z:Int):=by omega
 have H0:Hid (EscRel s.data.toList z p 6 q 0 0):=⟨by omega,by omega,by simpa using hq.symm,rfl,by decide⟩
 have HP:Hid ((p+3+n=s.size→∀ w',Below w.heap.size w w'→R (.returned (.tuple #[tk0,.int .i64 44])) w')∧((∃ h:p+3+n<s.size,s[p+3+n].toNat≠125∨n=0∨1114111<u∨wd u=0)→∀ w',Below w.heap.size w w'→R (.returned (.tuple #[tk0,.int .i64 41])) w')∧(∀ h:p+3+n<s.size,s[p+3+n].toNat=125→n≠0→¬ (1114111<u∨wd u=0)→∀ w',Below w.heap.size w w'→R (.returned (.tuple #[tk 1 p (n+4) ((u:Int)) ⟨#[]⟩ 0,.int .i64 0])) w')):=⟨h44,h41,hok⟩
 have HU:Hid (n=min 6 q∧u=val16 0 ((s.data.toList.drop (p+3)).take n)):=⟨hn,hu⟩
 clear hq hn hu h44 h41 hok
 go_enter Tryz.func82,Tryz.ntmps82
 go_wp2
 go_loopw [8,9] (fun vn vu wr=>∃ k v:Nat,vn = .int .i64 k∧vu = .int .i64 v∧Hid (EscRel s.data.toList z p 6 q k v)∧wr=w.alloc (.cells #[.int .i64 0,.int .i64 0,.int .i64 0,.int .i64 0,.string ⟨#[]⟩,.int .i64 0] 52)) (fun vn _ _=>6 - (intOf vn).toNat)
 case atStart=>exact ⟨0,0,rfl,rfl,H0,rfl⟩
 case round=>
  obtain ⟨k,v,rfl,rfl,HR,rfl⟩:=hrel
  obtain ⟨hk,hkm,-,hvv,hul⟩:=HR.out
  have hkI:(k:Int)≤6:=by omega
  have hk0:(0:Int)≤(k:Int):=by omega
  have hu24:v<16777216:=Nat.lt_of_lt_of_le hul (Nat.le_trans (Nat.pow_le_pow_right (by omega) (show k≤6 by omega)) (by decide))
  have huI:(v:Int)≤16777216:=by omega
  have hu0:(0:Int)≤(v:Int):=by omega
  by_cases hgo:k<6∧∃ h:p+3+k<s.size,isHx s[p+3+k]=true
  · obtain ⟨hkl,hks,hb⟩:=hgo
    have hkl':(k:Int)<6:=by omega
    have hlt':(p:Int)+3+(k:Int)<(z:Int):=by omega
    obtain ⟨hd1,hd2⟩:=dg16_nat _ hb
    have H2:Hid (EscRel s.data.toList z p 6 q (k+1) (16*v+(dg16 s[p+3+k]).toNat)):=HR.out.next hz hkl hks hb
    obtain ⟨dd,hdd⟩:∃ dd:Nat,(dg16 s[p+3+k]).toNat=dd:=⟨_,rfl⟩
    rw [hdd] at hd1 hd2 H2
    have HD:Hid (dg16 s[p+3+k]=(dd:Int)):=hd1
    have hdI:(dd:Int)≤15:=by omega
    have hd0:(0:Int)≤(dd:Int):=by omega
    clear hd1 hb hul HR H0 hvv
    go_wp2_with (go_at_call 124;refine (rdigit16_any _ _).mono ?_;rintro e w1 ⟨rfl,rfl⟩;rw [HD.out])
    exact ⟨⟨k+1,16*v+dd,by go_num,by go_num,H2,(by first | rfl | trivial)⟩,by simp [intOf];omega⟩
  · have hn:k=min 6 q:=HR.out.stop hz (by
     by_cases h:k<6
     · right
       intro hlt
       cases hb:isHx s[p+3+k]
       · rfl
       · exact absurd ⟨h,hlt,hb⟩ hgo
     · left;omega)
    have hkn:k=n:=by rw [HU.out.1];exact hn
    have huv:v=u:=by rw [HU.out.2,←hkn];exact hvv
    have HBl:Hid (Below w.heap.size w (w.alloc (.cells #[.int .i64 0,.int .i64 0,.int .i64 0,.int .i64 0,.string ⟨#[]⟩,.int .i64 0] 52))):=(Below.refl _ w).alloc (Nat.le_refl _) _
    have hreason:k=6∨(k<6∧p+3+k=s.size)∨(k<6∧∃ h:p+3+k<s.size,dg16 s[p+3+k] = -1):=by
     by_cases h:k<6
     · right
       by_cases hlt:p+3+k<s.size
       · right
         refine ⟨h,hlt,dg16_no _ ?_⟩
         cases hb:isHx s[p+3+k]
         · rfl
         · exact absurd ⟨h,hlt,hb⟩ hgo
       · left;exact ⟨h,by omega⟩
     · left;omega
    clear hul HR H0 hgo hn hvv HU
    subst hkn huv
    rcases hreason with hr | ⟨hkl,hend⟩ | ⟨hkl,hks,hd⟩
    · subst hr
      by_cases hend:p+3+6=s.size
      · have hend':(p:Int)+3+6=(z:Int):=by omega
        go_wp2
        exact bodyPost_ret (v := .tuple #[tk0,.int .i64 44]) (by simp [results,Tryz.f82,go_sem]) rfl (HP.out.1 (by omega) _ HBl.out)
      have hlt3:p+3+6<s.size:=by omega
      have hlt3':(p:Int)+3+6<(z:Int):=by omega
      have hne3:((p:Int)+3+6 == (z:Int))=false:=by simp;omega
      by_cases h125:s[p+3+6].toNat=125
      · have h125':((s[p+3+6].toNat:Int) != 125)=false:=by simp [h125]
        have H125:Hid (s[p+3+6].toNat=125):=h125
        clear h125
        by_cases hmx:1114111<v
        · have hmx':(1114111:Int)<(v:Int):=by omega
          go_wp2_with (go_at_call 125;refine (rwidth_any _ _).mono ?_;rintro e w1 ⟨rfl,rfl⟩)
          exact bodyPost_ret (v := .tuple #[tk0,.int .i64 41]) (by simp [results,Tryz.f82,go_sem]) rfl (HP.out.2.1 ⟨hlt3,.inr (.inr (.inl hmx))⟩ _ HBl.out)
        have hmx':(v:Int)≤1114111:=by omega
        by_cases hwd:wd v=0
        · go_wp2_with (go_at_call 125;refine (rwidth_any _ _).mono ?_;rintro e w1 ⟨rfl,rfl⟩)
          exact bodyPost_ret (v := .tuple #[tk0,.int .i64 41]) (by simp [results,Tryz.f82,go_sem]) rfl (HP.out.2.1 ⟨hlt3,.inr (.inr (.inr hwd))⟩ _ HBl.out)
        have hwd':(wd v == 0)=false:=by simpa using hwd
        go_wp2_with (go_at_call 125;refine (rwidth_any _ _).mono ?_;rintro e w1 ⟨rfl,rfl⟩)
        have HF:=HP.out.2.2 hlt3 H125.out (by decide) (fun h=>h.elim (fun h=>by omega) hwd) (w.alloc (.cells #[.int .i64 1,.int .i64 p,.int .i64 10,.int .i64 (v:Int),.string ⟨#[]⟩,.int .i64 0] 52)) ((Below.refl _ w).alloc (Nat.le_refl _) _)
        exact bodyPost_ret (v := .tuple #[tk 1 p 10 (v:Int) ⟨#[]⟩ 0,.int .i64 0]) (by simp [results,Tryz.f82,go_sem]) rfl HF
      · have h125':((s[p+3+6].toNat:Int) != 125)=true:=by simp only [bne_iff_ne,ne_eq];omega
        go_wp2_with (go_at_call 125;refine (rwidth_any _ _).mono ?_;rintro e w1 ⟨rfl,rfl⟩)
        exact bodyPost_ret (v := .tuple #[tk0,.int .i64 41]) (by simp [results,Tryz.f82,go_sem]) rfl (HP.out.2.1 ⟨hlt3,.inl h125⟩ _ HBl.out)
    · have hend':(p:Int)+3+(k:Int)=(z:Int):=by omega
      have hkl':(k:Int)<6:=by omega
      go_wp2
      exact bodyPost_ret (v := .tuple #[tk0,.int .i64 44]) (by simp [results,Tryz.f82,go_sem]) rfl (HP.out.1 (by omega) _ HBl.out)
    · have hlt3:p+3+k<s.size:=hks
      have hkl':(k:Int)<6:=by omega
      have hlt3':(p:Int)+3+(k:Int)<(z:Int):=by omega
      have hne3:((p:Int)+3+(k:Int) == (z:Int))=false:=by simp;omega
      by_cases h125:s[p+3+k].toNat=125
      · have h125':((s[p+3+k].toNat:Int) != 125)=false:=by simp [h125]
        have H125:Hid (s[p+3+k].toNat=125):=h125
        clear h125
        by_cases hk0p:k=0
        · subst hk0p
          go_wp2_with (first | (go_at_call 124;refine (rdigit16_any _ _).mono ?_;rintro e w1 ⟨rfl,rfl⟩;rw [hd]) | (go_at_call 125;refine (rwidth_any _ _).mono ?_;rintro e w1 ⟨rfl,rfl⟩))
          exact bodyPost_ret (v := .tuple #[tk0,.int .i64 41]) (by simp [results,Tryz.f82,go_sem]) rfl (HP.out.2.1 ⟨hlt3,.inr (.inl (by first | rfl | trivial))⟩ _ HBl.out)
        have hkz:((k:Int) == 0)=false:=by simp;omega
        by_cases hmx:1114111<v
        · have hmx':(1114111:Int)<(v:Int):=by omega
          go_wp2_with (first | (go_at_call 124;refine (rdigit16_any _ _).mono ?_;rintro e w1 ⟨rfl,rfl⟩;rw [hd]) | (go_at_call 125;refine (rwidth_any _ _).mono ?_;rintro e w1 ⟨rfl,rfl⟩))
          exact bodyPost_ret (v := .tuple #[tk0,.int .i64 41]) (by simp [results,Tryz.f82,go_sem]) rfl (HP.out.2.1 ⟨hlt3,.inr (.inr (.inl hmx))⟩ _ HBl.out)
        have hmx':(v:Int)≤1114111:=by omega
        by_cases hwd:wd v=0
        · go_wp2_with (first | (go_at_call 124;refine (rdigit16_any _ _).mono ?_;rintro e w1 ⟨rfl,rfl⟩;rw [hd]) | (go_at_call 125;refine (rwidth_any _ _).mono ?_;rintro e w1 ⟨rfl,rfl⟩))
          exact bodyPost_ret (v := .tuple #[tk0,.int .i64 41]) (by simp [results,Tryz.f82,go_sem]) rfl (HP.out.2.1 ⟨hlt3,.inr (.inr (.inr hwd))⟩ _ HBl.out)
        have hwd':(wd v == 0)=false:=by simpa using hwd
        go_wp2_with (first | (go_at_call 124;refine (rdigit16_any _ _).mono ?_;rintro e w1 ⟨rfl,rfl⟩;rw [hd]) | (go_at_call 125;refine (rwidth_any _ _).mono ?_;rintro e w1 ⟨rfl,rfl⟩))
        have HF:=HP.out.2.2 hlt3 H125.out hk0p (fun h=>h.elim (fun h=>by omega) hwd) (w.alloc (.cells #[.int .i64 1,.int .i64 p,.int .i64 ((k:Int)+4),.int .i64 (v:Int),.string ⟨#[]⟩,.int .i64 0] 52)) ((Below.refl _ w).alloc (Nat.le_refl _) _)
        exact bodyPost_ret (v := .tuple #[tk 1 p ((k:Int)+4) (v:Int) ⟨#[]⟩ 0,.int .i64 0]) (by simp [results,Tryz.f82,go_sem]) rfl HF
      · have h125':((s[p+3+k].toNat:Int) != 125)=true:=by simp only [bne_iff_ne,ne_eq];omega
        go_wp2_with (first | (go_at_call 124;refine (rdigit16_any _ _).mono ?_;rintro e w1 ⟨rfl,rfl⟩;rw [hd]) | (go_at_call 125;refine (rwidth_any _ _).mono ?_;rintro e w1 ⟨rfl,rfl⟩))
        exact bodyPost_ret (v := .tuple #[tk0,.int .i64 41]) (by simp [results,Tryz.f82,go_sem]) rfl (HP.out.2.1 ⟨hlt3,.inl h125⟩ _ HBl.out)
end Go.Proofs
