/-
  Several texts in one (Ebk Cok Umk).
-/
import Derived.Shelf.Abstract
import Derived.Shelf.RegionOpen
import Derived.WalkKit
import Derived.WalkSpells
import Derived.WalkLawsBesides
import Derived.BigQuiet
import Derived.Deep.QuietTactic
import Derived.Deep.LoopGhost
import Derived.Lib.OthersKept
import Derived.ScopeJumps
import Derived.WalkMore
import Derived.Maps.AppendAt
import Derived.Lib.SmallJoins
import Derived.Test.YtknaoahokopplaaGreatDoorMgfk
import Derived.Test.YtknaoahokopplaaGreatDoorUak
namespace Go.Proofs
open Go.RowKit Go.Shelf
set_option maxRecDepth 100000
attribute [local go_sem] Oper.semAt_some
theorem noPre (s:ByteArray) (h1:0<s.size) (h:s[0].toNat≠91):Lib.hasPrefix s.data.toList [91,58]=false:=by
 have hd:s.data.toList=s[0]::s.data.toList.drop 1:=by
  have:=drop_at (s:=s) (k:=0) h1
  rwa [List.drop_zero] at this
 rw [hd]
 have h2:((91:UInt8) == s[0])=false:=by
  rw [beq_eq_false_iff_ne]
  intro e
  exact h (by rw [←e];rfl)
 show List.isPrefixOf ([91,58]:List UInt8) (s[0]::_)=false
 rw [List.isPrefixOf_cons_cons,h2,Bool.false_and]
set_option maxHeartbeats 1000000 in
theorem esc_end (s:ByteArray) (h1:s.size=1):Tells 91 #[.string s] 0 0 0 0 ⟨#[]⟩ 0 44:=by
 intro w
 have h1i:((s.size:Int) == 1)=true:=by rw [h1];rfl
 go_enter Tryz.func91,Tryz.ntmps91
 go_wp2
 exact bodyPost_ret (v := .tuple #[tk0,.int .i64 44]) (by simp [results,Tryz.f91,go_sem]) rfl ⟨rfl,(Below.refl _ _).alloc (Nat.le_refl _) _⟩
set_option maxHeartbeats 1000000 in
theorem esc_x (s:ByteArray) (k a l u:Int) (t:ByteArray) (n e0:Int) (h2:2≤s.size) (hc:s[1].toNat=120) (hv:Tells 132 #[.string s] k a l u t n e0):Tells 91 #[.string s] k a l u t n e0:=by
 intro w
 have HV:Hid (Tells 132 #[.string s] k a l u t n e0):=hv
 clear hv
 have h1i:((s.size:Int) == 1)=false:=by simp;omega
 have h2i:(1:Int)<(s.size:Int):=by omega
 go_enter Tryz.func91,Tryz.ntmps91
 go_wp2_with fail
 refine (HV.out _).mono ?_
 rintro e w2 ⟨rfl,hb2⟩
 have HT2:=(TB.new w 0 0 0 0 ⟨#[]⟩ 0).below hb2 (by simp)
 have HB2:Below w.heap.size w w2:=((Below.refl _ w).alloc (Nat.le_refl _) _).trans (hb2.mono (by simp))
 obtain ⟨c0,c1,c2,c3,c4,c5⟩:=HT2.cells
 obtain ⟨f0,f1,f2,f3,f4,f5⟩:=HT2.frozen
 clear hb2
 go_wp2
 exact ret_tk rfl rfl rfl (HT2.set k a l u t n) ⟨rfl,below_set6 HB2 (Nat.le_refl _) _ _ _ _ _ _⟩
set_option maxHeartbeats 1000000 in
theorem esc_b (s:ByteArray) (k a l u:Int) (t:ByteArray) (n e0:Int) (h2:2≤s.size) (hc:s[1].toNat=98) (hv:Tells 133 #[.string s] k a l u t n e0):Tells 91 #[.string s] k a l u t n e0:=by
 intro w
 have HV:Hid (Tells 133 #[.string s] k a l u t n e0):=hv
 clear hv
 have h1i:((s.size:Int) == 1)=false:=by simp;omega
 have h2i:(1:Int)<(s.size:Int):=by omega
 go_enter Tryz.func91,Tryz.ntmps91
 go_wp2_with fail
 refine (HV.out _).mono ?_
 rintro e w2 ⟨rfl,hb2⟩
 have HT2:=(TB.new w 0 0 0 0 ⟨#[]⟩ 0).below hb2 (by simp)
 have HB2:Below w.heap.size w w2:=((Below.refl _ w).alloc (Nat.le_refl _) _).trans (hb2.mono (by simp))
 obtain ⟨c0,c1,c2,c3,c4,c5⟩:=HT2.cells
 obtain ⟨f0,f1,f2,f3,f4,f5⟩:=HT2.frozen
 clear hb2
 go_wp2
 exact ret_tk rfl rfl rfl (HT2.set k a l u t n) ⟨rfl,below_set6 HB2 (Nat.le_refl _) _ _ _ _ _ _⟩
set_option maxHeartbeats 1000000 in
theorem esc_low (s:ByteArray) (h2:2≤s.size) (_hx:s[1].toNat≠120) (_hb:s[1].toNat≠98) (h:s[1].toNat<32):Tells 91 #[.string s] 0 0 0 0 ⟨#[]⟩ 0 41:=by
 intro w
 have h1i:((s.size:Int) == 1)=false:=by simp;omega
 have h2i:(1:Int)<(s.size:Int):=by omega
 have hl:decide ((s[1].toNat:Int)<32)=true:=by simp;omega
 go_enter Tryz.func91,Tryz.ntmps91
 go_wp2
 exact bodyPost_ret (v := .tuple #[tk0,.int .i64 41]) (by simp [results,Tryz.f91,go_sem]) rfl ⟨rfl,(Below.refl _ _).alloc (Nat.le_refl _) _⟩
set_option maxHeartbeats 1000000 in
theorem esc_high (s:ByteArray) (h2:2≤s.size) (_hx:s[1].toNat≠120) (_hb:s[1].toNat≠98) (h:126<s[1].toNat):Tells 91 #[.string s] 0 0 0 0 ⟨#[]⟩ 0 41:=by
 intro w
 have h1i:((s.size:Int) == 1)=false:=by simp;omega
 have h2i:(1:Int)<(s.size:Int):=by omega
 have hl:decide ((s[1].toNat:Int)<32)=false:=by simp;omega
 have hh:decide ((126:Int)<(s[1].toNat:Int))=true:=by simp;omega
 go_enter Tryz.func91,Tryz.ntmps91
 go_wp2
 exact bodyPost_ret (v := .tuple #[tk0,.int .i64 41]) (by simp [results,Tryz.f91,go_sem]) rfl ⟨rfl,(Below.refl _ _).alloc (Nat.le_refl _) _⟩
set_option maxHeartbeats 1000000 in
theorem esc_letter (s:ByteArray) (h2:2≤s.size) (hx:s[1].toNat≠120) (hb:s[1].toNat≠98) (h32:32≤s[1].toNat) (h126:s[1].toNat≤126) (hlt:isLt s[1]=true):Tells 91 #[.string s] 0 0 0 0 ⟨#[]⟩ 0 41:=by
 intro w
 have h1i:((s.size:Int) == 1)=false:=by simp;omega
 have h2i:(1:Int)<(s.size:Int):=by omega
 have hl:decide ((s[1].toNat:Int)<32)=false:=by simp;omega
 have hh:decide ((126:Int)<(s[1].toNat:Int))=false:=by simp;omega
 go_enter Tryz.func91,Tryz.ntmps91
 go_wp2_with (first | (go_at_call 128;refine (letter_any _ _).mono ?_;rintro e w' ⟨rfl,rfl⟩;rw [hlt]) | (go_at_call 129;refine (digit_any _ _).mono ?_;rintro e w' ⟨rfl,rfl⟩;rw [hdg]))
 exact bodyPost_ret (v := .tuple #[tk0,.int .i64 41]) (by simp [results,Tryz.f91,go_sem]) rfl ⟨rfl,(Below.refl _ _).alloc (Nat.le_refl _) _⟩
set_option maxHeartbeats 1000000 in
theorem esc_digit (s:ByteArray) (h2:2≤s.size) (hx:s[1].toNat≠120) (hb:s[1].toNat≠98) (h32:32≤s[1].toNat) (h126:s[1].toNat≤126) (hlt:isLt s[1]=false) (hdg:isDg s[1]=true):Tells 91 #[.string s] 0 0 0 0 ⟨#[]⟩ 0 41:=by
 intro w
 have h1i:((s.size:Int) == 1)=false:=by simp;omega
 have h2i:(1:Int)<(s.size:Int):=by omega
 have hl:decide ((s[1].toNat:Int)<32)=false:=by simp;omega
 have hh:decide ((126:Int)<(s[1].toNat:Int))=false:=by simp;omega
 go_enter Tryz.func91,Tryz.ntmps91
 go_wp2_with (first | (go_at_call 128;refine (letter_any _ _).mono ?_;rintro e w' ⟨rfl,rfl⟩;rw [hlt]) | (go_at_call 129;refine (digit_any _ _).mono ?_;rintro e w' ⟨rfl,rfl⟩;rw [hdg]))
 exact bodyPost_ret (v := .tuple #[tk0,.int .i64 41]) (by simp [results,Tryz.f91,go_sem]) rfl ⟨rfl,(Below.refl _ _).alloc (Nat.le_refl _) _⟩
set_option maxHeartbeats 1000000 in
theorem esc_ok (s:ByteArray) (h2:2≤s.size) (hx:s[1].toNat≠120) (hb:s[1].toNat≠98) (h32:32≤s[1].toNat) (h126:s[1].toNat≤126) (hlt:isLt s[1]=false) (hdg:isDg s[1]=false):Tells 91 #[.string s] 1 0 2 s[1].toNat ⟨#[]⟩ 0 0:=by
 intro w
 have h1i:((s.size:Int) == 1)=false:=by simp;omega
 have h2i:(1:Int)<(s.size:Int):=by omega
 have hl:decide ((s[1].toNat:Int)<32)=false:=by simp;omega
 have hh:decide ((126:Int)<(s[1].toNat:Int))=false:=by simp;omega
 go_enter Tryz.func91,Tryz.ntmps91
 go_wp2_with (first | (go_at_call 128;refine (letter_any _ _).mono ?_;rintro e w' ⟨rfl,rfl⟩;rw [hlt]) | (go_at_call 129;refine (digit_any _ _).mono ?_;rintro e w' ⟨rfl,rfl⟩;rw [hdg]))
 refine (unit_any _ _ _).mono ?_
 rintro e w2 ⟨rfl,hb2⟩
 have HT2:=(TB.new w 0 0 0 0 ⟨#[]⟩ 0).below hb2 (by simp)
 have HB2:Below w.heap.size w w2:=((Below.refl _ w).alloc (Nat.le_refl _) _).trans (hb2.mono (by simp))
 obtain ⟨c0,c1,c2,c3,c4,c5⟩:=HT2.cells
 obtain ⟨f0,f1,f2,f3,f4,f5⟩:=HT2.frozen
 clear hb2
 go_wp2
 exact ret_tk rfl rfl rfl (HT2.set 1 0 2 (s[1].toNat:Int) ⟨#[]⟩ 0) ⟨rfl,below_set6 HB2 (Nat.le_refl _) _ _ _ _ _ _⟩
set_option maxHeartbeats 1000000 in
theorem first_copy (s:ByteArray) (fresh:Bool) (k a l u:Int) (t:ByteArray) (n e0:Int) (h1:0<s.size) (hc:s[0].toNat=64) (hv:Tells 90 #[.string s] k a l u t n e0):Tells 47 #[.string s,.bool fresh] k a l u t n e0:=by
 intro w
 have HV:Hid (Tells 90 #[.string s] k a l u t n e0):=hv
 clear hv
 have h1i:(1:Int)≤(s.size:Int):=by omega
 have hi:Lib.indexByte sgnL (Int.toNat (64:Int)).toUInt8 = -1:=by decide +kernel
 have hp:=noPre s h1 (by omega)
 go_enter Tryz.func47,Tryz.ntmps47
 go_wp2_with (first | (go_at_call 84;refine (Tryz.strings_IndexByte _ _ _).mono ?_;rintro e w' ⟨rfl,rfl⟩;rw [show (⟨#[62,59,123,125,124,94,36,46,91,93,45,61,58]⟩:ByteArray).data.toList=sgnL from rfl,hi]) | (go_at_call 88;refine (Tryz.strings_HasPrefix _ _ _).mono ?_;rintro e w' ⟨rfl,rfl⟩;rw [show (⟨#[91,58]⟩:ByteArray).data.toList=[91,58] from rfl,hp]))
 refine (HV.out _).mono ?_
 rintro e w2 ⟨rfl,hb2⟩
 have HT2:=(TB.new w 0 0 0 0 ⟨#[]⟩ 0).below hb2 (by simp)
 have HB2:Below w.heap.size w w2:=((Below.refl _ w).alloc (Nat.le_refl _) _).trans (hb2.mono (by simp))
 obtain ⟨c0,c1,c2,c3,c4,c5⟩:=HT2.cells
 obtain ⟨f0,f1,f2,f3,f4,f5⟩:=HT2.frozen
 clear hb2
 go_wp2
 exact ret_tk rfl rfl rfl (HT2.set k a l u t n) ⟨rfl,below_set6 HB2 (Nat.le_refl _) _ _ _ _ _ _⟩
set_option maxHeartbeats 1000000 in
theorem first_esc (s:ByteArray) (fresh:Bool) (k a l u:Int) (t:ByteArray) (n e0:Int) (h1:0<s.size) (hc:s[0].toNat=92) (hv:Tells 91 #[.string s] k a l u t n e0):Tells 47 #[.string s,.bool fresh] k a l u t n e0:=by
 intro w
 have HV:Hid (Tells 91 #[.string s] k a l u t n e0):=hv
 clear hv
 have h1i:(1:Int)≤(s.size:Int):=by omega
 have hi:Lib.indexByte sgnL (Int.toNat (92:Int)).toUInt8 = -1:=by decide +kernel
 have hp:=noPre s h1 (by omega)
 go_enter Tryz.func47,Tryz.ntmps47
 go_wp2_with (first | (go_at_call 84;refine (Tryz.strings_IndexByte _ _ _).mono ?_;rintro e w' ⟨rfl,rfl⟩;rw [show (⟨#[62,59,123,125,124,94,36,46,91,93,45,61,58]⟩:ByteArray).data.toList=sgnL from rfl,hi]) | (go_at_call 88;refine (Tryz.strings_HasPrefix _ _ _).mono ?_;rintro e w' ⟨rfl,rfl⟩;rw [show (⟨#[91,58]⟩:ByteArray).data.toList=[91,58] from rfl,hp]))
 refine (HV.out _).mono ?_
 rintro e w2 ⟨rfl,hb2⟩
 have HT2:=(TB.new w 0 0 0 0 ⟨#[]⟩ 0).below hb2 (by simp)
 have HB2:Below w.heap.size w w2:=((Below.refl _ w).alloc (Nat.le_refl _) _).trans (hb2.mono (by simp))
 obtain ⟨c0,c1,c2,c3,c4,c5⟩:=HT2.cells
 obtain ⟨f0,f1,f2,f3,f4,f5⟩:=HT2.frozen
 clear hb2
 go_wp2
 exact ret_tk rfl rfl rfl (HT2.set k a l u t n) ⟨rfl,below_set6 HB2 (Nat.le_refl _) _ _ _ _ _ _⟩
end Go.Proofs
namespace Go.Proofs
open Go.RowKit Go.Shelf
set_option maxRecDepth 100000
attribute [local go_sem] Oper.semAt_some
theorem uintM_ok:∀ (l:List UInt8) (acc:Nat),(∀ c∈l,isDg c=true)→(acc+1)*10 ^ l.length≤1000000000000000000→∃ v,Lib.parseUintM (2 ^ 64 - 1) acc l = .ok v∧v<(acc+1)*10 ^ l.length
 | [],acc,_,_=>⟨acc,rfl,by simp⟩
 | c::l,acc,h,hb=>by
  have hc:=h c (by simp)
  simp only [isDg,Bool.and_eq_true,decide_eq_true_eq] at hc
  have hb2:(acc*10+(c.toNat - 48)+1)*10 ^ l.length≤(acc+1)*10 ^ (c::l).length:=by
   rw [List.length_cons,Nat.pow_succ,Nat.mul_comm (10 ^ l.length),←Nat.mul_assoc]
   exact Nat.mul_le_mul_right _ (by omega)
  have hp:1≤10 ^ l.length:=Nat.one_le_pow _ _ (by omega)
  have hac:acc+1≤1000000000000000000:=by
   have:(acc+1)*1≤(acc+1)*10 ^ (c::l).length:=Nat.mul_le_mul_left _ (Nat.one_le_pow _ _ (by omega))
   omega
  obtain ⟨v,h1,h2⟩:=uintM_ok l (acc*10+(c.toNat - 48)) (fun x hx=>h x (by simp [hx])) (by omega)
  refine ⟨v,?_,by omega⟩
  have hlt:acc*10+(c.toNat - 48)<1000000000000000000:=by
   have:(acc*10+(c.toNat - 48)+1)*1≤(acc*10+(c.toNat - 48)+1)*10 ^ l.length:=Nat.mul_le_mul_left _ hp
   omega
  rw [Lib.parseUintM,if_pos hc,if_neg (by omega),if_neg (by omega)]
  exact h1
theorem int_ok (l:List UInt8) (h0:l≠[]) (h:∀ c∈l,isDg c=true) (h9:l.length≤9):∃ v:Int,Lib.parseIntB 64 l = .ok v:=by
 cases l with
 | nil=>exact absurd rfl h0
 | cons c l=>
  have hc:=h c (by simp)
  simp only [isDg,Bool.and_eq_true,decide_eq_true_eq] at hc
  have hp:10 ^ (c::l).length≤10 ^ 9:=Nat.pow_le_pow_right (by omega) h9
  obtain ⟨v,h1,h2⟩:=uintM_ok (c::l) 0 h (by omega)
  refine ⟨(v:Int),?_⟩
  unfold Lib.parseIntB Lib.parseUintB
  simp only
  rw [if_neg (show ¬ (c.toNat=43∨c.toNat=45) by omega),if_neg (by simp),h1]
  simp only
  rw [if_neg (by omega),if_neg (by omega),if_neg (by omega)]
set_option maxHeartbeats 1000000 in
theorem number10_any (t:ByteArray) (v:Int) (w:World) (h9:t.size≤9) (hv:Lib.parseIntB 64 t.data.toList = .ok v):Calls Tryz.prog 131 #[.string t,.int .i64 10] w fun e w'=>e = .returned (.int .i64 v)∧Below w.heap.size w w':=by
 have HC:Hid (∀ W:World,Calls Tryz.prog 156 #[.string t,.int .i64 10,.int .i64 64] W fun e w'=>e = .returned (.tuple #[.int .i64 v,.nilIface])∧Below W.heap.size W w'):=fun W=>by
  refine (Tryz.strconv_ParseInt_10_at64_ok t (by omega) v hv W).mono ?_
  rintro e w' ⟨he,hw | ⟨x,hw⟩⟩
  · subst hw;exact ⟨he,Below.refl _ _⟩
  · subst hw;exact ⟨he,⟨rfl,rfl,rfl,by rw [Lib.bytesWorld_size];omega,fun k hk=>Lib.bytesWorld_at_old _ _ _ _ hk⟩⟩
 clear hv
 go_enter Tryz.func131,Tryz.ntmps131
 go_wp2_with fail
 refine (HC.out _).mono ?_
 rintro e w1 ⟨rfl,hb⟩
 go_wp2
 go_ret
 exact ⟨rfl,hb⟩
set_option maxHeartbeats 1000000 in
theorem cop_zero (s:ByteArray) (hs:s.size≤maxLen) (h1:0<s.size) (hn:spanN isDg (s.extract 1 s.size).data.toList=0):Tells 90 #[.string s] 0 0 0 0 ⟨#[]⟩ 0 43:=by
 intro w
 have h1i:(1:Int)≤(s.size:Int):=by omega
 go_enter Tryz.func90,Tryz.ntmps90
 go_wp2_with (go_at_call 85;refine (span_digit _ _ (by rw [ext_size];omega)).mono ?_;rintro e w' ⟨rfl,rfl⟩;rw [hn])
 exact bodyPost_ret (v := .tuple #[tk0,.int .i64 43]) (by simp [results,Tryz.f90,go_sem]) rfl ⟨rfl,(Below.refl _ _).alloc (Nat.le_refl _) _⟩
set_option maxHeartbeats 1000000 in
theorem cop_many (s:ByteArray) (hs:s.size≤maxLen) (h1:0<s.size) (n:Nat) (hn:spanN isDg (s.extract 1 s.size).data.toList=n) (h9:9<n):Tells 90 #[.string s] 0 0 0 0 ⟨#[]⟩ 0 43:=by
 intro w
 have h1i:(1:Int)≤(s.size:Int):=by omega
 have hd:decide ((9:Int)<(n:Int))=true:=by simp;omega
 have hd0:((n:Int) == 0)=false:=by simp;omega
 go_enter Tryz.func90,Tryz.ntmps90
 go_wp2_with (go_at_call 85;refine (span_digit _ _ (by rw [ext_size];omega)).mono ?_;rintro e w' ⟨rfl,rfl⟩;rw [hn])
 exact bodyPost_ret (v := .tuple #[tk0,.int .i64 43]) (by simp [results,Tryz.f90,go_sem]) rfl ⟨rfl,(Below.refl _ _).alloc (Nat.le_refl _) _⟩
set_option maxHeartbeats 1000000 in
theorem cop_nought (s:ByteArray) (hs:s.size≤maxLen) (_h1:0<s.size) (n:Nat) (hn:spanN isDg (s.extract 1 s.size).data.toList=n) (h0:0<n) (h9:n≤9) (h2:1<s.size) (hc:s[1].toNat=48):Tells 90 #[.string s] 0 0 0 0 ⟨#[]⟩ 0 43:=by
 intro w
 have h1i:(1:Int)≤(s.size:Int):=by omega
 have hle:1+n≤s.size:=by
  have:=spanN_le isDg (s.extract 1 s.size).data.toList
  rw [hn,ext_drop] at this
  simp at this
  omega
 have hlei:(1:Int)+(n:Int)≤(s.size:Int):=by omega
 have h2i:(1:Int)<(s.size:Int):=by omega
 have hd:decide ((9:Int)<(n:Int))=false:=by simp;omega
 have hd0:((n:Int) == 0)=false:=by simp;omega
 go_enter Tryz.func90,Tryz.ntmps90
 go_wp2_with (go_at_call 85;refine (span_digit _ _ (by rw [ext_size];omega)).mono ?_;rintro e w' ⟨rfl,rfl⟩;rw [hn])
 exact bodyPost_ret (v := .tuple #[tk0,.int .i64 43]) (by simp [results,Tryz.f90,go_sem]) rfl ⟨rfl,(Below.refl _ _).alloc (Nat.le_refl _) _⟩
set_option maxHeartbeats 1000000 in
theorem cop_ok (s:ByteArray) (hs:s.size≤maxLen) (_h1:0<s.size) (n:Nat) (hn:spanN isDg (s.extract 1 s.size).data.toList=n) (h0:0<n) (h9:n≤9) (h2:1<s.size) (hc:s[1].toNat≠48) (v:Int) (hv:Lib.parseIntB 64 (s.extract 1 (1+n)).data.toList = .ok v):Tells 90 #[.string s] 3 0 (1+n) 0 ⟨#[]⟩ v 0:=by
 intro w
 have h1i:(1:Int)≤(s.size:Int):=by omega
 have hle:1+n≤s.size:=by
  have:=spanN_le isDg (s.extract 1 s.size).data.toList
  rw [hn,ext_drop] at this
  simp at this
  omega
 have hlei:(1:Int)+(n:Int)≤(s.size:Int):=by omega
 have h2i:(1:Int)<(s.size:Int):=by omega
 have hd:decide ((9:Int)<(n:Int))=false:=by simp;omega
 have hd0:((n:Int) == 0)=false:=by simp;omega
 have HNum:Hid (∀ W:World,Calls Tryz.prog 131 #[.string (s.extract 1 (1+n)),.int .i64 10] W fun e w'=>e = .returned (.int .i64 v)∧Below W.heap.size W w'):=fun W=>number10_any _ v W (by rw [ByteArray.size_extract];omega) hv
 clear hv
 go_enter Tryz.func90,Tryz.ntmps90
 go_wp2_with (first | (go_at_call 85;refine (span_digit _ _ (by rw [ext_size];omega)).mono ?_;rintro e w' ⟨rfl,rfl⟩;rw [hn]))
 refine (HNum.out _).mono ?_
 rintro e w2 ⟨rfl,hb2⟩
 have HT2:=(TB.new w 0 0 0 0 ⟨#[]⟩ 0).below hb2 (by simp)
 have HB2:Below w.heap.size w w2:=((Below.refl _ w).alloc (Nat.le_refl _) _).trans (hb2.mono (by simp))
 obtain ⟨c0,c1,c2,c3,c4,c5⟩:=HT2.cells
 obtain ⟨f0,f1,f2,f3,f4,f5⟩:=HT2.frozen
 clear hb2
 go_wp2
 exact ret_tk rfl rfl rfl (HT2.set 3 0 (1+n) 0 ⟨#[]⟩ v) ⟨rfl,below_set6 HB2 (Nat.le_refl _) _ _ _ _ _ _⟩
end Go.Proofs
namespace Go.Proofs
open Go.RowKit Go.Shelf
set_option maxRecDepth 100000
theorem dec1 (s:ByteArray) (p:Nat) (h:(s.get! p).toNat<128):Utf8.decode s p=((s.get! p).toNat,1):=by
 unfold Utf8.decode
 simp only [Nat.add_zero]
 rw [if_pos (by omega)]
theorem dec2 (s:ByteArray) (p c:Nat) (h0:128≤c) (h1:c<2048) (hs:p+1<s.size) (b0:(s.get! p).toNat=192+c / 64) (b1:(s.get! (p+1)).toNat=128+c % 64):Utf8.decode s p=(c,2):=by
 unfold Utf8.decode
 simp only [Nat.add_zero,b0,b1]
 rw [if_neg (by omega),if_pos (by simp [hs];omega),if_pos (by omega)]
 rw [Prod.mk.injEq];omega
theorem dec3 (s:ByteArray) (p c:Nat) (h0:2048≤c) (h1:c<65536) (hv:c<55296∨57344≤c) (hs:p+2<s.size) (b0:(s.get! p).toNat=224+c / 4096) (b1:(s.get! (p+1)).toNat=128+c / 64 % 64) (b2:(s.get! (p+2)).toNat=128+c % 64):Utf8.decode s p=(c,3):=by
 have hs1:p+1<s.size:=by omega
 unfold Utf8.decode
 simp only [Nat.add_zero,b0,b1,b2]
 rw [if_neg (by omega),if_neg (by simp;omega),if_pos (by simp [hs,hs1];omega)]
 have e:(224+c / 4096) % 16*4096+(128+c / 64 % 64) % 64*64+(128+c % 64) % 64=c:=by omega
 rw [e,if_pos (by simp [Utf8.valid];omega)]
theorem dec4 (s:ByteArray) (p c:Nat) (h0:65536≤c) (h1:c<1114112) (hs:p+3<s.size) (b0:(s.get! p).toNat=240+c / 262144) (b1:(s.get! (p+1)).toNat=128+c / 4096 % 64) (b2:(s.get! (p+2)).toNat=128+c / 64 % 64) (b3:(s.get! (p+3)).toNat=128+c % 64):Utf8.decode s p=(c,4):=by
 have hs1:p+1<s.size:=by omega
 have hs2:p+2<s.size:=by omega
 unfold Utf8.decode
 simp only [Nat.add_zero,b0,b1,b2,b3]
 rw [if_neg (by omega),if_neg (by simp;omega),if_neg (by simp;omega),if_pos (by simp [hs,hs1,hs2];omega)]
 have e:(240+c / 262144) % 8*262144+(128+c / 4096 % 64) % 64*4096+(128+c / 64 % 64) % 64*64+(128+c % 64) % 64=c:=by omega
 rw [e,if_pos (by simp [Utf8.valid];omega)]
theorem get_lit (l:List UInt8) (k:Nat):(⟨l.toArray⟩:ByteArray).get! k=l.getD k 0:=by
 show (l.toArray)[k]! = _
 simp [List.getD]
 rfl
theorem size_lit (l:List UInt8):(⟨l.toArray⟩:ByteArray).size=l.length:=by simp [ByteArray.size]
theorem b8 (n:Nat) (h:n<256):(UInt8.ofNat n).toNat=n:=by rw [UInt8.toNat_ofNat'];omega
theorem uAt_of_rune {s:ByteArray} {p c n:Nat} (h:Utf8.decode s p=(c,n)) (hc:c≠65533):uAt s p=c:=by
 have:strayAt s p=false:=by unfold strayAt;rw [h];simp [hc]
 rw [uAt_rune this,h]
theorem enc1 (c:Nat) (h:c<128):Utf8.encode (c:Int)=⟨[UInt8.ofNat c].toArray⟩:=by
 unfold Utf8.encode
 have hv:Utf8.valid (c:Int)=true:=by simp [Utf8.valid];omega
 simp only [hv,if_true,Int.toNat_natCast]
 rw [if_pos (by omega)]
theorem enc2 (c:Nat) (h0:128≤c) (h:c<2048):Utf8.encode (c:Int)=⟨[UInt8.ofNat (192+c / 64),UInt8.ofNat (128+c % 64)].toArray⟩:=by
 unfold Utf8.encode
 have hv:Utf8.valid (c:Int)=true:=by simp [Utf8.valid];omega
 simp only [hv,if_true,Int.toNat_natCast]
 rw [if_neg (by omega),if_pos (by omega)]
theorem enc3 (c:Nat) (h0:2048≤c) (h:c<65536) (hv:c<55296∨57344≤c):Utf8.encode (c:Int)=⟨[UInt8.ofNat (224+c / 4096),UInt8.ofNat (128+c / 64 % 64),UInt8.ofNat (128+c % 64)].toArray⟩:=by
 unfold Utf8.encode
 have hv:Utf8.valid (c:Int)=true:=by simp [Utf8.valid];omega
 simp only [hv,if_true,Int.toNat_natCast]
 rw [if_neg (by omega),if_neg (by omega),if_pos (by omega)]
theorem enc4 (c:Nat) (h0:65536≤c) (h:c<1114112):Utf8.encode (c:Int)=⟨[UInt8.ofNat (240+c / 262144),UInt8.ofNat (128+c / 4096 % 64),UInt8.ofNat (128+c / 64 % 64),UInt8.ofNat (128+c % 64)].toArray⟩:=by
 unfold Utf8.encode
 have hv:Utf8.valid (c:Int)=true:=by simp [Utf8.valid];omega
 simp only [hv,if_true,Int.toNat_natCast]
 rw [if_neg (by omega),if_neg (by omega),if_neg (by omega)]
end Go.Proofs
