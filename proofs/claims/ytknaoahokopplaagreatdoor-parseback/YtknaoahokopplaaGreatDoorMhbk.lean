/-
  Several texts in one (Wbk Wck).
-/
import Derived.Shelf.Abstract
import Derived.Shelf.RegionOpen
import Derived.WalkKit
import Derived.WalkSpells
import Derived.WalkLawsBesides
import Derived.BigQuiet
import Derived.Deep.QuietTactic
import Derived.Deep.LoopGhost
import Derived.Lib.OthersKept
import Derived.ScopeJumps
import Derived.WalkMore
import Derived.Maps.AppendAt
import Derived.Lib.SmallJoins
import Derived.Test.YtknaoahokopplaaGreatDoorMhak
namespace Go.Proofs
open Go.RowKit Go.Shelf
set_option maxRecDepth 100000
attribute [local go_sem] Oper.semAt_some
theorem app_mk (a b:Array UInt8):(⟨a⟩:ByteArray)++⟨b⟩=⟨a++b⟩:=ByteArray.ext (by simp)
theorem hexDig:∀ d:Fin 16,(⟨#[48,49,50,51,52,53,54,55,56,57,65,66,67,68,69,70]⟩:ByteArray).extract d.val (d.val+1)=⟨#[Lib.upperB (dgc d.val)]⟩:=by decide +kernel
theorem quo16 (n:Nat) (hn:n≤16777215) (W:World):(binOp .quo 3 (.int .i64 n) (.int .i64 16)).run Tryz.prog W = .ok (.int .i64 ((n / 16:Nat):Int)) W:=by
 go_simp
 simp [IntKind.wrap,IntKind.signed,IntKind.bits]
 omega
theorem rem16 (n:Nat) (W:World):(binOp .rem 3 (.int .i64 n) (.int .i64 16)).run Tryz.prog W = .ok (.int .i64 ((n % 16:Nat):Int)) W:=by
 go_simp
 exact Int.tmod_eq_emod_of_nonneg (by omega)
set_option maxHeartbeats 1000000 in
theorem hexR_one (n:Nat) (w:World) (hn16:n<16):Calls Tryz.prog 192 #[.int .i64 n] w fun e w'=>e = .returned (.string ⟨#[Lib.upperB (dgc n)]⟩)∧w'=w:=by
 have hni:(n:Int)<16:=by omega
 have he:=hexDig ⟨n,hn16⟩
 simp only at he
 go_enter Tryz.func192,Tryz.ntmps192
 go_wp2
 go_ret
 exact ⟨rfl,rfl⟩
set_option maxHeartbeats 1000000 in
theorem hexR_any:∀ (k n:Nat) (w:World),n<16 ^ (k+1)→k≤5→Calls Tryz.prog 192 #[.int .i64 n] w fun e w'=>e = .returned (.string ⟨(Lib.toUpperA (hexF (k+1) n)).toArray⟩)∧w'=w:=by
 intro k
 induction k with
 | zero=>
  intro n w hn _
  have hn16:n<16:=by simpa using hn
  rw [hexF_last hn16]
  exact hexR_one n w hn16
 | succ k ih=>
  intro n w hn hk
  by_cases hn16:n<16
  · rw [hexF_last hn16]
    exact hexR_one n w hn16
  · rw [hexF_step (by omega)]
    have hd:decide ((n:Int)<16)=false:=by simp;omega
    have hdiv:n / 16<16 ^ (k+1):=by rw [Nat.pow_succ] at hn;omega
    have hnb:n≤16777215:=by
     have:16 ^ (k+1+1)≤16 ^ 6:=Nat.pow_le_pow_right (by omega) (by omega)
     omega
    have hq:=quo16 n hnb
    have hrm:=rem16 n
    have HI:Hid (∀ W:World,Calls Tryz.prog 192 #[.int .i64 ((n / 16:Nat):Int)] W fun e w'=>e = .returned (.string ⟨(Lib.toUpperA (hexF (k+1) (n / 16))).toArray⟩)∧w'=W):=fun W=>ih (n / 16) W hdiv (by omega)
    have HO:Hid (∀ W:World,Calls Tryz.prog 192 #[.int .i64 ((n % 16:Nat):Int)] W fun e w'=>e = .returned (.string ⟨#[Lib.upperB (dgc (n % 16))]⟩)∧w'=W):=fun W=>hexR_one (n % 16) W (by omega)
    have hz:(hexF (k+1) (n / 16)).length≤6:=by have:=hexF_len (k+1) (n / 16);omega
    have ht:Lib.toUpperA (hexF (k+1) (n / 16)++[dgc (n % 16)])=Lib.toUpperA (hexF (k+1) (n / 16))++[Lib.upperB (dgc (n % 16))]:=by simp [Lib.toUpperA]
    rw [ht]
    have hz2:(Lib.toUpperA (hexF (k+1) (n / 16))).length≤6:=by simpa [Lib.toUpperA] using hz
    generalize Lib.toUpperA (hexF (k+1) (n / 16))=L at HI hz2 ⊢
    generalize Lib.upperB (dgc (n % 16))=c at HO ⊢
    clear ih ht hz
    go_enter Tryz.func192,Tryz.ntmps192
    go_wp2_with fail
    refine (HI.out _).mono ?_
    rintro e w1 ⟨rfl,rfl⟩
    go_wp2_with fail
    refine (HO.out _).mono ?_
    rintro e w2 ⟨rfl,rfl⟩
    go_wp2_with fail
    go_ret
    refine ⟨?_,rfl⟩
    show Ending.returned (.string (⟨L.toArray⟩++⟨#[c]⟩))=_
    rw [app_mk]
    simp
theorem idx_eq (c:UInt8) (l:List UInt8):Lib.indexByte (c::l) c=0:=by rw [Lib.indexByte,if_pos (by simp)]
theorem idx_ne {b c:UInt8} (h:b≠c) (l:List UInt8):Lib.indexByte (b::l) c=if Lib.indexByte l c = -1 then -1 else Lib.indexByte l c+1:=by
 rw [Lib.indexByte,if_neg (by simpa using h)]
 simp only [beq_iff_eq]
set_option maxHeartbeats 1000000 in
theorem in_any (c:UInt8) (s:ByteArray) (w:World) (hs:s.size≤1000):Calls Tryz.prog 80 #[.int .u8 c.toNat,.string s] w fun e w'=>e = .returned (.int .i64 (Lib.indexByte s.data.toList c))∧w'=w:=by
 obtain ⟨r,hr⟩:∃ r,Lib.indexByte s.data.toList c=r:=⟨_,rfl⟩
 have HR:Hid (Lib.indexByte s.data.toList c=r):=hr
 rw [hr]
 clear hr
 go_enter Tryz.func80,Tryz.ntmps80
 go_wp2
 go_loopw [5] (fun vi wr=>∃ k:Nat,vi = .int .i64 k∧k≤s.size∧Hid (r=if Lib.indexByte (s.data.toList.drop k) c = -1 then -1 else (k:Int)+Lib.indexByte (s.data.toList.drop k) c)∧wr=w) (fun vi _=>s.size - (intOf vi).toNat)
 case atStart=>
  refine ⟨0,rfl,by omega,?_,rfl⟩
  show r=_
  rw [←HR.out,List.drop_zero]
  split
  · assumption
  · simp
 case round=>
  obtain ⟨k,rfl,hk,hS,rfl⟩:=hrel
  clear HR
  by_cases hkn:k<s.size
  · have hki:(k:Int)<(s.size:Int):=by omega
    have hS2:=hS.out
    rw [drop_at hkn] at hS2
    by_cases he:s[k]=c
    · rw [he,idx_eq,if_neg (by decide)] at hS2
      have HS:Hid (r=(k:Int)):=by show r=_;simpa using hS2
      have hcc:((s[k].toNat:Int) == (c.toNat:Int))=true:=by rw [he];simp
      clear hS hS2
      go_wp2
      go_ret
      exact ⟨by rw [HS.out];rfl,rfl⟩
    · rw [idx_ne he] at hS2
      have HS:Hid (r=if Lib.indexByte (s.data.toList.drop (k+1)) c = -1 then -1 else ((k+1:Nat):Int)+Lib.indexByte (s.data.toList.drop (k+1)) c):=by
       show r=_
       rw [hS2]
       have hb:=(idx_bound (s.data.toList.drop (k+1)) c).1
       generalize Lib.indexByte (s.data.toList.drop (k+1)) c=i at hb ⊢
       by_cases h1:i = -1
       · subst h1;rfl
       · rw [if_neg h1,if_neg h1,if_neg (by omega)]
         push_cast
         omega
      have hcc:((s[k].toNat:Int) == (c.toNat:Int))=false:=by
       rw [beq_eq_false_iff_ne]
       intro e
       exact he (UInt8.toNat_inj.1 (Int.ofNat_inj.1 e))
      clear hS hS2
      go_wp2
      exact ⟨⟨k+1,by go_num,by omega,HS,(by first | rfl | trivial)⟩,by simp [intOf];omega⟩
  · have HS:Hid (r = -1):=by
     have:=hS.out
     rw [List.drop_of_length_le (by simp;omega)] at this
     show r=_
     simpa [Lib.indexByte] using this
    clear hS
    go_wp2
    go_ret
    exact ⟨by rw [HS.out];rfl,rfl⟩
theorem sgn_at:∀ d:Fin 13,(⟨#[62,59,123,125,124,94,36,46,91,93,45,61,58]⟩:ByteArray).extract d.val (d.val+1)=⟨#[sgnL[d.val]'d.isLt]⟩:=by decide +kernel
def signB (k:Int):ByteArray:=if 10≤k∧k<23 then ⟨#[sgnL.getD (k - 10).toNat 0]⟩ else ⟨#[]⟩
end Go.Proofs
namespace Go.Proofs
open Go.RowKit Go.Shelf
set_option maxRecDepth 100000
attribute [local go_sem] Oper.semAt_some
set_option maxHeartbeats 1000000 in
theorem signK_any (k:Int) (w:World):Calls Tryz.prog 68 #[.int .i64 k] w fun e w'=>e = .returned (.string (signB k))∧w'=w:=by
 unfold signB
 by_cases h:10≤k∧k<23
 · rw [if_pos h]
   obtain ⟨d,rfl⟩:∃ d:Nat,k=(d:Int)+10:=⟨(k - 10).toNat,by omega⟩
   have hd:d<13:=by omega
   have he:=sgn_at ⟨d,hd⟩
   simp only at he
   have hg:sgnL.getD ((d:Int)+10 - 10).toNat 0=sgnL[d]'hd:=by
    rw [show ((d:Int)+10 - 10).toNat=d by omega]
    simp [List.getD,List.getElem?_eq_getElem (show d<sgnL.length from hd)]
    rfl
   rw [hg]
   have hw:IntKind.i64.wrap ((d:Int)+10 - 10)=(d:Int):=by simp [IntKind.wrap,IntKind.signed,IntKind.bits];omega
   have d1:decide ((d:Int)+10<10)=false:=by simp;omega
   have d2:decide ((23:Int)≤(d:Int)+10)=false:=by simp;omega
   have d3:(d:Int)≤12:=by omega
   clear h hg
   generalize sgnL[d]'hd=c at he ⊢
   go_enter Tryz.func68,Tryz.ntmps68
   go_wp2
   go_ret
   exact ⟨rfl,rfl⟩
 · rw [if_neg h]
   by_cases h1:k<10
   · have d1:decide (k<10)=true:=by simpa using h1
     clear h
     go_enter Tryz.func68,Tryz.ntmps68
     go_wp2
     go_ret
     exact ⟨rfl,rfl⟩
   · have d1:decide (k<10)=false:=by simpa using h1
     have d2:decide ((23:Int)≤k)=true:=by simp;omega
     clear h
     go_enter Tryz.func68,Tryz.ntmps68
     go_wp2
     go_ret
     exact ⟨rfl,rfl⟩
theorem put_low:∀ u:Fin 128,put (u.val:Int)=⟨#[UInt8.ofNat u.val]⟩:=by decide +kernel
theorem rsv_range:∀ u:Fin 128,rsv u.val=true→33≤u.val∧u.val≤126:=by decide +kernel
theorem rsv_lt {u:Nat} (h:rsv u=true):u<128:=by
 unfold rsv at h
 simp only [Bool.and_eq_true,decide_eq_true_eq] at h
 exact h.1
theorem rsv_in {u:Nat} (h:rsv u=true):33≤u∧u≤126:=rsv_range ⟨u,rsv_lt h⟩ h
set_option maxHeartbeats 1000000 in
theorem write_none (u:Int) (w:World) (hwd:wd u=0):Calls Tryz.prog 24 #[.int .i64 u] w fun e w'=>e = .returned (.tuple #[.string ⟨#[]⟩,.int .i64 1])∧Below w.heap.size w w':=by
 go_enter Tryz.func24,Tryz.ntmps24
 go_wp2_with (first | (go_at_call 48;refine (width_any _ _).mono ?_;rintro e w' ⟨rfl,rfl⟩;rw [hwd]) | (go_at_call 50;refine (reserved_any _ _).mono ?_;rintro e w' ⟨rfl,rfl⟩;rw [hrs]))
 go_ret2
 exact ⟨rfl,Below.refl _ _⟩
set_option maxHeartbeats 1000000 in
theorem rwrite_none (u:Int) (w:World) (hwd:wd u=0):Calls Tryz.prog 174 #[.int .i64 u] w fun e w'=>e = .returned (.tuple #[.string ⟨#[]⟩,.int .i64 1])∧Below w.heap.size w w':=by
 go_enter Tryz.func174,Tryz.ntmps174
 go_wp2_with (first | (go_at_call 125;refine (rwidth_any _ _).mono ?_;rintro e w' ⟨rfl,rfl⟩;rw [hwd]))
 go_ret2
 exact ⟨rfl,Below.refl _ _⟩
set_option maxHeartbeats 1000000 in
theorem write_stray (b:Nat) (w:World) (hT:TabB w) (h1:128≤b) (h2:b≤255):Calls Tryz.prog 24 #[.int .i64 ((b:Int)+1114112)] w fun e w'=>e = .returned (.tuple #[.string (⟨#[92,98,123]⟩++hexB b++⟨#[125]⟩),.int .i64 0])∧Below w.heap.size w w':=by
 have hwd:wd ((b:Int)+1114112)=1:=wd_1 (by omega)
 have d1:decide ((1114111:Int)<(b:Int)+1114112)=true:=by simp;omega
 have hw:IntKind.i64.wrap ((b:Int)+1114112 - 1114112)=(b:Int):=by
  rw [show (b:Int)+1114112 - 1114112=(b:Int) by omega]
  simp [IntKind.wrap,IntKind.signed,IntKind.bits];omega
 have HC:Hid (∀ W,TabB W→Calls Tryz.prog 49 #[.int .i64 b] W fun e w'=>e = .returned (.string (hexB b))∧Below W.heap.size W w'):=fun W hW=>capitals_any b W hW (by omega)
 have hz:=hexB_size b
 generalize hexB b=x at HC hz ⊢
 have hx1:((⟨#[92,98,123]⟩:ByteArray)++x).size=3+x.size:=by rw [ByteArray.size_append];rfl
 go_enter Tryz.func24,Tryz.ntmps24
 go_wp2_with (first | (go_at_call 48;refine (width_any _ _).mono ?_;rintro e w' ⟨rfl,rfl⟩;rw [hwd]))
 refine (HC.out _ hT).mono ?_
 rintro e w1 ⟨rfl,hb⟩
 go_wp2
 go_ret2
 exact ⟨rfl,hb⟩
set_option maxHeartbeats 1000000 in
theorem rwrite_stray (b:Nat) (w:World) (h1:128≤b) (h2:b≤255):Calls Tryz.prog 174 #[.int .i64 ((b:Int)+1114112)] w fun e w'=>e = .returned (.tuple #[.string (⟨#[92,98,123]⟩++hexB b++⟨#[125]⟩),.int .i64 0])∧Below w.heap.size w w':=by
 have hwd:wd ((b:Int)+1114112)=1:=wd_1 (by omega)
 have d1:decide ((1114112:Int)≤(b:Int)+1114112)=true:=by simp;omega
 have hw:IntKind.i64.wrap ((b:Int)+1114112 - 1114112)=(b:Int):=by
  rw [show (b:Int)+1114112 - 1114112=(b:Int) by omega]
  simp [IntKind.wrap,IntKind.signed,IntKind.bits];omega
 have HC:Hid (∀ W:World,Calls Tryz.prog 192 #[.int .i64 b] W fun e w'=>e = .returned (.string (hexB b))∧w'=W):=fun W=>hexR_any 5 b W (Nat.lt_of_le_of_lt h2 (by decide)) (by omega)
 have hz:=hexB_size b
 generalize hexB b=x at HC hz ⊢
 have hx1:((⟨#[92,98,123]⟩:ByteArray)++x).size=3+x.size:=by rw [ByteArray.size_append];rfl
 go_enter Tryz.func174,Tryz.ntmps174
 go_wp2_with (first | (go_at_call 125;refine (rwidth_any _ _).mono ?_;rintro e w' ⟨rfl,rfl⟩;rw [hwd]))
 refine (HC.out _).mono ?_
 rintro e w1 ⟨rfl,rfl⟩
 go_wp2
 go_ret2
 exact ⟨rfl,Below.refl _ _⟩
set_option maxHeartbeats 1000000 in
theorem rwrite_hex (u:Nat) (n:Int) (w:World) (hwd:wd u=n) (hn:n≠0) (hu:u≤1114111) (h:u<32∨126<u):Calls Tryz.prog 174 #[.int .i64 u] w fun e w'=>e = .returned (.tuple #[.string (⟨#[92,120,123]⟩++hexB u++⟨#[125]⟩),.int .i64 0])∧Below w.heap.size w w':=by
 have d0:(n == 0)=false:=by simpa using hn
 have d1:decide ((1114112:Int)≤(u:Int))=false:=by simp;omega
 have HC:Hid (∀ W:World,Calls Tryz.prog 192 #[.int .i64 u] W fun e w'=>e = .returned (.string (hexB u))∧w'=W):=fun W=>hexR_any 5 u W (Nat.lt_of_le_of_lt hu (by decide)) (by omega)
 have hz:=hexB_size u
 generalize hexB u=x at HC hz ⊢
 have hx1:((⟨#[92,120,123]⟩:ByteArray)++x).size=3+x.size:=by rw [ByteArray.size_append];rfl
 rcases h with h | h
 · have d3:decide ((u:Int)<32)=true:=by simp;omega
   go_enter Tryz.func174,Tryz.ntmps174
   go_wp2_with (first | (go_at_call 125;refine (rwidth_any _ _).mono ?_;rintro e w' ⟨rfl,rfl⟩;rw [hwd]))
   refine (HC.out _).mono ?_
   rintro e w1 ⟨rfl,rfl⟩
   go_wp2
   go_ret2
   exact ⟨rfl,Below.refl _ _⟩
 · have d3:decide ((u:Int)<32)=false:=by simp;omega
   have d4:decide ((126:Int)<(u:Int))=true:=by simp;omega
   go_enter Tryz.func174,Tryz.ntmps174
   go_wp2_with (first | (go_at_call 125;refine (rwidth_any _ _).mono ?_;rintro e w' ⟨rfl,rfl⟩;rw [hwd]))
   refine (HC.out _).mono ?_
   rintro e w1 ⟨rfl,rfl⟩
   go_wp2
   go_ret2
   exact ⟨rfl,Below.refl _ _⟩
theorem conv1 (u:Nat) (hu:u<128) (w:World):(convert 50 9 (.slice (some ⟨w.heap.size,0,none⟩) 1 1)).run Tryz.prog (w.alloc (.cells #[.int .u8 u] 5)) = .ok (.string ⟨#[UInt8.ofNat u]⟩) (w.alloc (.cells #[.int .u8 u] 5)):=by
 have h:=run_convert_bytes_back (P:=Tryz.prog) (w.alloc (.cells #[.int .u8 u] 5)) 50 9 5 ⟨w.heap.size,0,none⟩ 1 [UInt8.ofNat u] Tryz.underlying50 Tryz.underlying5 Tryz.underlying9 (fun j hj=>by
  obtain rfl:j=0:=by simp at hj;omega
  have e:((UInt8.ofNat u).toNat:Int)=u:=by rw [UInt8.toNat_ofNat'];omega
  simp only [List.getElem_cons_zero,e]
  simp [Addr.add])
 exact h
theorem in_rsv (u:Nat) (w:World) (hu:u<128):Calls Tryz.prog 80 #[.int .u8 u,.string ⟨#[62,59,123,125,124,94,36,46,91,93,45,61,58,64,35,92,44]⟩] w fun e w'=>e = .returned (.int .i64 (Lib.indexByte rsvL u.toUInt8))∧w'=w:=by
 have h:=in_any u.toUInt8 ⟨#[62,59,123,125,124,94,36,46,91,93,45,61,58,64,35,92,44]⟩ w (by decide)
 have e:((u.toUInt8).toNat:Int)=u:=by
  show ((UInt8.ofNat u).toNat:Int)=u
  rw [UInt8.toNat_ofNat'];omega
 rw [e] at h
 exact h
theorem rsv_idx {u:Nat} (hu:u<128):rsv u=decide (0≤Lib.indexByte rsvL u.toUInt8):=by unfold rsv;simp [hu]
set_option maxHeartbeats 1000000 in
theorem write_esc (u:Nat) (w:World) (h:33≤u∧u≤126) (hrs:rsv u=true):Calls Tryz.prog 24 #[.int .i64 u] w fun e w'=>e = .returned (.tuple #[.string ⟨#[92,UInt8.ofNat u]⟩,.int .i64 0])∧Below w.heap.size w w':=by
 have hwd:wd u=1:=wd_1 (by omega)
 have d1:decide ((1114111:Int)<(u:Int))=false:=by simp;omega
 have HP:Hid (∀ W:World,Calls Tryz.prog 51 #[.int .i64 u] W fun e w'=>e = .returned (.string ⟨#[UInt8.ofNat u]⟩)∧Below W.heap.size W w'):=fun W=>by
  have:=put_any u W
  rwa [put_low ⟨u,by omega⟩] at this
 have d2:((u:Int) == 32)=false:=by simp;omega
 go_enter Tryz.func24,Tryz.ntmps24
 go_wp2_with (first | (go_at_call 48;refine (width_any _ _).mono ?_;rintro e w' ⟨rfl,rfl⟩;rw [hwd]) | (go_at_call 50;refine (reserved_any _ _).mono ?_;rintro e w' ⟨rfl,rfl⟩;rw [hrs]))
 refine (HP.out _).mono ?_
 rintro e w1 ⟨rfl,hb⟩
 go_wp2
 go_ret2
 exact ⟨rfl,hb⟩
set_option maxHeartbeats 1000000 in
theorem write_plain (u:Nat) (w:World) (h:33≤u∧u≤126) (hrs:rsv u=false):Calls Tryz.prog 24 #[.int .i64 u] w fun e w'=>e = .returned (.tuple #[.string ⟨#[UInt8.ofNat u]⟩,.int .i64 0])∧Below w.heap.size w w':=by
 have hwd:wd u=1:=wd_1 (by omega)
 have d1:decide ((1114111:Int)<(u:Int))=false:=by simp;omega
 have HP:Hid (∀ W:World,Calls Tryz.prog 51 #[.int .i64 u] W fun e w'=>e = .returned (.string ⟨#[UInt8.ofNat u]⟩)∧Below W.heap.size W w'):=fun W=>by
  have:=put_any u W
  rwa [put_low ⟨u,by omega⟩] at this
 have d2:((u:Int) == 32)=false:=by simp;omega
 have d3:decide ((u:Int)<32)=false:=by simp;omega
 have d4:decide ((126:Int)<(u:Int))=false:=by simp;omega
 go_enter Tryz.func24,Tryz.ntmps24
 go_wp2_with (first | (go_at_call 48;refine (width_any _ _).mono ?_;rintro e w' ⟨rfl,rfl⟩;rw [hwd]) | (go_at_call 50;refine (reserved_any _ _).mono ?_;rintro e w' ⟨rfl,rfl⟩;rw [hrs]))
 refine (HP.out _).mono ?_
 rintro e w1 ⟨rfl,hb⟩
 go_wp2
 go_ret2
 exact ⟨rfl,hb⟩
set_option maxHeartbeats 1000000 in
theorem rwrite_esc (u:Nat) (w:World) (h:33≤u∧u≤126) (hrs:rsv u=true):Calls Tryz.prog 174 #[.int .i64 u] w fun e w'=>e = .returned (.tuple #[.string ⟨#[92,UInt8.ofNat u]⟩,.int .i64 0])∧Below w.heap.size w w':=by
 have hu:u<128:=by omega
 have hwd:wd u=1:=wd_1 (by omega)
 have d1:decide ((1114112:Int)≤(u:Int))=false:=by simp;omega
 have d3:decide ((u:Int)<32)=false:=by simp;omega
 have d4:decide ((126:Int)<(u:Int))=false:=by simp;omega
 have hcv:=conv1 u hu
 obtain ⟨i,hin⟩:∃ i,Lib.indexByte rsvL u.toUInt8=i:=⟨_,rfl⟩
 have d2:((u:Int) == 32)=false:=by simp;omega
 have hi:decide ((0:Int)≤i)=true:=by rw [←hin,←rsv_idx hu];exact hrs
 go_enter Tryz.func174,Tryz.ntmps174
 go_wp2_with (first | (go_at_call 125;refine (rwidth_any _ _).mono ?_;rintro e w' ⟨rfl,rfl⟩;rw [hwd]) | (go_at_call 80;refine (in_rsv u _ hu).mono ?_;rintro e w' ⟨rfl,rfl⟩;rw [hin]))
 go_ret2
 exact ⟨rfl,(Below.refl _ _).alloc (Nat.le_refl _) _⟩
set_option maxHeartbeats 1000000 in
theorem rwrite_plain (u:Nat) (w:World) (h:33≤u∧u≤126) (hrs:rsv u=false):Calls Tryz.prog 174 #[.int .i64 u] w fun e w'=>e = .returned (.tuple #[.string ⟨#[UInt8.ofNat u]⟩,.int .i64 0])∧Below w.heap.size w w':=by
 have hu:u<128:=by omega
 have hwd:wd u=1:=wd_1 (by omega)
 have d1:decide ((1114112:Int)≤(u:Int))=false:=by simp;omega
 have d3:decide ((u:Int)<32)=false:=by simp;omega
 have d4:decide ((126:Int)<(u:Int))=false:=by simp;omega
 have hcv:=conv1 u hu
 obtain ⟨i,hin⟩:∃ i,Lib.indexByte rsvL u.toUInt8=i:=⟨_,rfl⟩
 have d2:((u:Int) == 32)=false:=by simp;omega
 have hi:decide ((0:Int)≤i)=false:=by rw [←hin,←rsv_idx hu];exact hrs
 go_enter Tryz.func174,Tryz.ntmps174
 go_wp2_with (first | (go_at_call 125;refine (rwidth_any _ _).mono ?_;rintro e w' ⟨rfl,rfl⟩;rw [hwd]) | (go_at_call 80;refine (in_rsv u _ hu).mono ?_;rintro e w' ⟨rfl,rfl⟩;rw [hin]))
 go_ret2
 exact ⟨rfl,(Below.refl _ _).alloc (Nat.le_refl _) _⟩
set_option maxHeartbeats 1000000 in
theorem write_blank (w:World):Calls Tryz.prog 24 #[.int .i64 32] w fun e w'=>e = .returned (.tuple #[.string ⟨#[92,32]⟩,.int .i64 0])∧Below w.heap.size w w':=by
 have hwd:wd 32=1:=wd_1 (by omega)
 have HP:Hid (∀ W:World,Calls Tryz.prog 51 #[.int .i64 32] W fun e w'=>e = .returned (.string ⟨#[32]⟩)∧Below W.heap.size W w'):=fun W=>by
  have:=put_any 32 W
  rwa [show put 32=⟨#[32]⟩ from put_low ⟨32,by omega⟩] at this
 go_enter Tryz.func24,Tryz.ntmps24
 go_wp2_with (go_at_call 48;refine (width_any _ _).mono ?_;rintro e w' ⟨rfl,rfl⟩;rw [hwd])
 refine (HP.out _).mono ?_
 rintro e w1 ⟨rfl,hb⟩
 go_wp2
 go_ret2
 exact ⟨rfl,hb⟩
set_option maxHeartbeats 1000000 in
theorem rwrite_blank (w:World):Calls Tryz.prog 174 #[.int .i64 32] w fun e w'=>e = .returned (.tuple #[.string ⟨#[92,32]⟩,.int .i64 0])∧Below w.heap.size w w':=by
 have hwd:wd 32=1:=wd_1 (by omega)
 have hcv:∀ w:World,(convert 50 9 (.slice (some ⟨w.heap.size,0,none⟩) 1 1)).run Tryz.prog (w.alloc (.cells #[.int .u8 32] 5)) = .ok (.string ⟨#[32]⟩) (w.alloc (.cells #[.int .u8 32] 5)):=fun w=>conv1 32 (by omega) w
 go_enter Tryz.func174,Tryz.ntmps174
 go_wp2_with (go_at_call 125;refine (rwidth_any _ _).mono ?_;rintro e w' ⟨rfl,rfl⟩;rw [hwd])
 go_ret2
 exact ⟨rfl,(Below.refl _ _).alloc (Nat.le_refl _) _⟩
end Go.Proofs
