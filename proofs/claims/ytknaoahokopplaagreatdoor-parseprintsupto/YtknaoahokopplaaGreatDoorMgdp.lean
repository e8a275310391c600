/-
  Several texts in one (Hap Sup Wap Wbp).
-/
import Derived.Shelf.Abstract
import Derived.Shelf.RegionOpen
import Derived.WalkKit
import Derived.WalkSpells
import Derived.WalkLawsBesides
import Derived.BigQuiet
import Derived.Deep.QuietTactic
import Derived.Deep.LoopGhost
import Derived.Lib.OthersKept
import Derived.ScopeJumps
import Derived.WalkMore
import Derived.Maps.AppendAt
import Derived.Laws.BitsAllLaws
import Derived.Lib.SmallJoins
import Derived.Test.YtknaoahokopplaaGreatDoorMgcp
import Derived.Test.YtknaoahokopplaaGreatDoorCards
import Derived.Test.YtknaoahokopplaaGreatDoorTie
import Derived.ProofKit
import Derived.OpenShut
import Derived.Deep.DeepHandedRow
import Derived.Lib.LaidTab
import Derived.Lib.LaidU8
import Derived.MakeChecks
import Derived.Lay
import Derived.LaidLaws
namespace Go.Proofs
open Go.RowKit Go.Shelf
set_option maxRecDepth 100000
attribute [local go_sem] Oper.semAt_some
theorem and16_15:bits BinOp.and IntKind.i64 16 15=0:=by decide +kernel
theorem and16_neg:bits BinOp.and IntKind.u64 16 (IntKind.u64.wrap (-16))=16:=by decide +kernel
theorem idx15:IntKind.u64.wrap (16*285870213051353865) / 288230376151711744=15:=by decide +kernel
def TabB (w:World):Prop:=w.cell? ⟨8,15,none⟩=some (.int .u8 4)
set_option maxHeartbeats 1000000 in
theorem pow_any (w:World):Calls Tryz.prog 187 #[.int .i64 16] w fun e w'=>e = .returned (.bool true)∧w'=w:=by
 have h:=and16_15
 go_enter Tryz.func187,Tryz.ntmps187
 go_wp2
 go_ret
 exact ⟨rfl,rfl⟩
set_option maxHeartbeats 1000000 in
theorem tz64_any (w:World) (hT:TabB w):Calls Tryz.prog 203 #[.int .u64 16] w fun e w'=>e = .returned (.int .i64 4)∧w'=w:=by
 have h1:=and16_neg
 have h2:=idx15
 have hc:w.cell? ⟨8,15,none⟩=some (.int .u8 4):=hT
 clear hT
 go_enter Tryz.func203,Tryz.ntmps203
 go_wp2
 go_ret
 exact ⟨rfl,rfl⟩
set_option maxHeartbeats 1000000 in
theorem tz_any (w:World) (hT:TabB w):Calls Tryz.prog 188 #[.int .u64 16] w fun e w'=>e = .returned (.int .i64 4)∧w'=w:=by
 go_enter Tryz.func188,Tryz.ntmps188
 go_wp2_with (go_at_call 203;refine (tz64_any _ hT).mono ?_;rintro e w' ⟨rfl,rfl⟩)
 go_ret
 exact ⟨rfl,rfl⟩
def dgc (d:Nat):UInt8:=if d<10 then UInt8.ofNat (48+d) else UInt8.ofNat (87+d)
def hexF:Nat→Nat→List UInt8
 | 0,_=>[]
 | k+1,n=>if n<16 then [dgc n] else hexF k (n / 16)++[dgc (n % 16)]
def HX (W:World) (B:Nat) (tail:List UInt8):Prop:=∃ cur:Array Value,W.heap[B]? = some (.cells cur 179 (0,0))∧cur.size=65∧cur.toList.drop (65 - tail.length)=tail.map fun b=>Value.int .u8 b.toNat
theorem HX.facts {W:World} {B:Nat} {tail:List UInt8} (h:HX W B tail) {i:Nat} (hi:i<65):(∃ v,W.cell? ⟨B,i,none⟩=some v)∧W.frozen? ⟨B,i,none⟩=false:=by
 obtain ⟨cur,hb,hz,_⟩:=h
 constructor
 · simp [World.cell?,hb,hz,hi]
 · simp [World.frozen?,hb]
theorem HX.put {W:World} {B:Nat} {tail:List UInt8} (h:HX W B tail) (c:UInt8) {i:Nat} (hi:i+1+tail.length=65):HX (W.setCell ⟨B,i,none⟩ (.int .u8 c.toNat)) B (c::tail):=by
 obtain ⟨cur,hb,hz,hd⟩:=h
 refine ⟨cur.setIfInBounds i (.int .u8 c.toNat),cells_setS hb,by simpa using hz,?_⟩
 have e:65 - (c::tail).length=i:=by simp;omega
 rw [e,Array.toList_setIfInBounds]
 have hl:i<cur.toList.length:=by simp;omega
 have hl2:i<(cur.toList.set i (Value.int IntKind.u8 c.toNat)).length:=by simpa using hl
 rw [List.drop_eq_getElem_cons hl2,List.map_cons]
 congr 1
 · simp
 · rw [List.drop_set_of_lt (by omega),←hd]
   congr 1
   omega
theorem HX.reads {W:World} {B:Nat} {l:List UInt8} (h:HX W B l) {i:Nat} (hi:i+l.length=65):∀ j (hj:j<l.length),W.cell? ((⟨B,i,none⟩:Addr).add j)=some (.int .u8 (l[j].toNat:Int)):=by
 obtain ⟨cur,hb,hz,hd⟩:=h
 intro j hj
 have e:(⟨B,i,none⟩:Addr).add j=⟨B,i+j,none⟩:=by
  unfold Addr.add
  by_cases h:j=0
  · subst h;rfl
  · simp [h]
 rw [e]
 have h1:cur.toList[i+j]? = some (Value.int .u8 l[j].toNat):=by
  have:(cur.toList.drop (65 - l.length))[j]? = (l.map fun b=>Value.int .u8 b.toNat)[j]? := by rw [hd]
  rw [List.getElem?_drop,show 65 - l.length=i by omega] at this
  rw [this]
  simp [hj]
 simp only [World.cell?,hb]
 simpa using h1
theorem dig_at:∀ d:Fin 16,(⟨#[48,49,50,51,52,53,54,55,56,57,97,98,99,100,101,102,103,104,105,106,107,108,109,110,111,112,113,114,115,116,117,118,119,120,121,122]⟩:ByteArray).get! d.val=dgc d.val:=by decide +kernel
theorem dig_get (d:Nat) (hd:d<16) (h):(⟨#[48,49,50,51,52,53,54,55,56,57,97,98,99,100,101,102,103,104,105,106,107,108,109,110,111,112,113,114,115,116,117,118,119,120,121,122]⟩:ByteArray)[d]'h=dgc d:=(get_bang _ d h).symm.trans (dig_at ⟨d,hd⟩)
theorem and15 (m:Nat) (hm:m≤16777215):bits BinOp.and IntKind.u64 (m:Int) 15=((m % 16:Nat):Int):=by
 have h:=u64_and_nat m 15 (by omega) (by omega)
 rw [show ((15:Nat):Int)=15 from rfl] at h
 rw [h,show (15:Nat)=2 ^ 4 - 1 from rfl,Nat.and_two_pow_sub_one_eq_mod]
theorem add_zero_at (g j:Nat):(⟨g,0,none⟩:Addr).add j=⟨g,j,none⟩:=by
 unfold Addr.add
 by_cases h:j=0
 · subst h;rfl
 · simp [h]
theorem sl65 (B i:Nat) (hi:i<65):∀ W:World,(Instr.sliceAt 179 (.pointer (some ⟨B,0,none⟩)) (some (.int .i64 i)) none none).run Tryz.prog W = .ok (.slice (some ⟨B,i,none⟩) (65 - i) (65 - i)) W:=by
 intro W
 have hal:Tryz.prog.arrayLen 179=65:=by kernel_rfl
 have h0:(0:Int)≤(i:Int):=by omega
 have h1:(i:Int)≤((65:Nat):Int):=by omega
 have ht:Tryz.prog.underlying 179=some (.array (Tryz.prog.arrayLen 179) (Tryz.prog.elem 179)):=by kernel_rfl
 have hz:(sizeOf (Tryz.prog.elem 179)).run Tryz.prog W = .ok 1 W:=by kernel_rfl
 rw [run_sliceAt_array_l W 179 ⟨B,0,none⟩ ht .i64 i h0 (by rw [hal];exact h1),hz,hal]
 simp only [Result.andThen,slicedAt,Int.toNat_natCast,Nat.mul_one]
 rw [if_neg (by omega),add_zero_at]
theorem hexF_step {k m:Nat} (h:16≤m):hexF (k+1) m=hexF k (m / 16)++[dgc (m % 16)]:=by rw [hexF,if_neg (by omega)]
theorem hexF_last {k m:Nat} (h:m<16):hexF (k+1) m=[dgc m]:=by rw [hexF,if_pos h]
set_option maxHeartbeats 1000000 in
theorem fmtBits_any (u:Nat) (w:World) (hT:TabB w) (hu:u≤1114111):Calls Tryz.prog 166 #[.slice none 0 0,.int .u64 u,.int .i64 16,.bool false,.bool false] w fun e w'=>e = .returned (.tuple #[.slice none 0 0,.string ⟨(hexF 6 u).toArray⟩])∧Below w.heap.size w w':=by
 have hT1:TabB (w.alloc (.cells Tryz.zeroCells179 179)):=cell_up hT _
 obtain ⟨r,hr⟩:∃ r,hexF 6 u=r:=⟨_,rfl⟩
 have HR:Hid (hexF 6 u=r):=hr
 rw [hr]
 clear hr
 go_enter Tryz.func166,Tryz.ntmps166
 go_wp2_with (first | (go_at_call 187;refine (pow_any _).mono ?_;rintro e w' ⟨rfl,rfl⟩) | (go_at_call 188;refine (tz_any _ hT1).mono ?_;rintro e w' ⟨rfl,rfl⟩))
 go_loopw [1,13] (fun vu vi wr=>∃ (m k:Nat) (tail:List UInt8),vu = .int .u64 m∧vi = .int .i64 ((65 - tail.length:Nat):Int)∧k+tail.length=6∧1≤k∧m<16 ^ k∧Hid (r=hexF k m++tail)∧Hid (HX wr w.heap.size tail)∧Hid (Below w.heap.size w wr)) (fun vu _ _=>(intOf vu).toNat)
 case atStart=>exact ⟨u,6,[],rfl,rfl,rfl,by omega,Nat.lt_of_le_of_lt hu (by decide),by show _=_;rw [HR.out,List.append_nil],⟨Tryz.zeroCells179,World.alloc_heap_new _ _,by kernel_rfl,by kernel_rfl⟩,(Below.refl _ _).alloc (Nat.le_refl _) _⟩
 case round=>
  obtain ⟨m,k,tail,rfl,rfl,hk,hk1,hm,HE,HXX,HB⟩:=hrel
  have hm2:m≤16777215:=by
   have:16 ^ k≤16 ^ 6:=Nat.pow_le_pow_right (by omega) (by omega)
   omega
  obtain ⟨i,hi⟩:∃ i,i+1+tail.length=65:=⟨64 - tail.length,by omega⟩
  rw [show 65 - tail.length=i+1 by omega]
  obtain ⟨⟨v0,cv⟩,fv⟩:=HXX.out.facts (i:=i) (by omega)
  by_cases hge:16≤m
  · have hgi:(16:Int)≤(m:Int):=by omega
    have hand:=and15 m hm2
    obtain ⟨k,rfl⟩:∃ j,k=j+1:=⟨k - 1,by omega⟩
    have HE2:Hid (r=hexF k (m / 16)++(dgc (m % 16)::tail)):=by
     show _=_
     rw [HE.out,hexF_step hge,List.append_assoc];rfl
    have HX2:=HXX.out.put (dgc (m % 16)) hi
    have hm3:m / 16<16 ^ k:=by rw [Nat.pow_succ] at hm;omega
    have hk2:1≤k:=by
     cases k with
     | zero=>simp at hm;omega
     | succ k=>omega
    have hdg:=dig_get (m % 16) (by omega) (by show m % 16<36;omega)
    go_wp2
    refine ⟨⟨m / 16,k,dgc (m % 16)::tail,by simp,by simp;omega,by simp;omega,hk2,hm3,HE2,HX2,HB.out.setCell (p:=⟨w.heap.size,i,none⟩) (Nat.le_refl _) _⟩,by simp [intOf];omega⟩
  · have hlt:(m:Int)<16:=by omega
    have hlt':m<16:=by omega
    obtain ⟨k,rfl⟩:∃ j,k=j+1:=⟨k - 1,by omega⟩
    have HE2:Hid (r=dgc m::tail):=by
     show _=_
     rw [HE.out,hexF_last hlt'];rfl
    have HX2:Hid (HX (wr.setCell ⟨w.heap.size,i,none⟩ (.int .u8 (dgc m).toNat)) w.heap.size (dgc m::tail)):=HXX.out.put (dgc m) hi
    have hdg:=dig_get m hlt' (by show m<36;omega)
    have hsl:=sl65 w.heap.size i (by omega)
    have hcv:(convert 50 9 (.slice (some ⟨w.heap.size,i,none⟩) (65 - i) (65 - i))).run Tryz.prog (wr.setCell ⟨w.heap.size,i,none⟩ (.int .u8 (dgc m).toNat)) = .ok (.string ⟨r.toArray⟩) (wr.setCell ⟨w.heap.size,i,none⟩ (.int .u8 (dgc m).toNat)):=by
     have hrl:(dgc m::tail).length=65 - i:=by simp;omega
     have:=run_convert_bytes_back (P:=Tryz.prog) (wr.setCell ⟨w.heap.size,i,none⟩ (.int .u8 (dgc m).toNat)) 50 9 5 ⟨w.heap.size,i,none⟩ (65 - i) (dgc m::tail) Tryz.underlying50 Tryz.underlying5 Tryz.underlying9 (HX2.out.reads (by simp;omega))
     rw [hrl] at this
     rw [HE2.out]
     exact this
    go_wp2_with fail
    go_ret2
    exact ⟨rfl,HB.out.setCell (p:=⟨w.heap.size,i,none⟩) (Nat.le_refl _) _⟩
set_option maxHeartbeats 1000000 in
theorem fmtIntI_any (u:Nat) (w:World) (hT:TabB w) (hu:u≤1114111):Calls Tryz.prog 139 #[.int .i64 u,.int .i64 16] w fun e w'=>e = .returned (.string ⟨(hexF 6 u).toArray⟩)∧Below w.heap.size w w':=by
 have hd:decide ((u:Int)<0)=false:=by simp
 have hwr:IntKind.u64.wrap (u:Int)=(u:Int):=by simp [IntKind.wrap,IntKind.signed,IntKind.bits];omega
 go_enter Tryz.func139,Tryz.ntmps139
 go_wp2_with fail
 refine (fmtBits_any u w hT hu).mono ?_
 rintro e w1 ⟨rfl,hb⟩
 go_wp2
 go_ret
 exact ⟨rfl,hb⟩
set_option maxHeartbeats 1000000 in
theorem fmtInt_any (u:Nat) (w:World) (hT:TabB w) (hu:u≤1114111):Calls Tryz.prog 98 #[.int .i64 u,.int .i64 16] w fun e w'=>e = .returned (.string ⟨(hexF 6 u).toArray⟩)∧Below w.heap.size w w':=by
 go_enter Tryz.func98,Tryz.ntmps98
 go_wp2_with fail
 refine (fmtIntI_any u w hT hu).mono ?_
 rintro e w1 ⟨rfl,hb⟩
 go_wp2
 go_ret
 exact ⟨rfl,hb⟩
theorem dgc_ascii:∀ d:Fin 16,(dgc d.val).toNat<128:=by decide +kernel
theorem hexF_ascii:∀ (k n:Nat),∀ b∈hexF k n,b.toNat<128
 | 0,n=>by simp [hexF]
 | k+1,n=>by
  intro b hb
  rw [hexF] at hb
  split at hb
  · rename_i h
    simp at hb;subst hb;exact dgc_ascii ⟨n,h⟩
  · simp at hb
    rcases hb with hb | rfl
    · exact hexF_ascii k _ b hb
    · exact dgc_ascii ⟨n % 16,by omega⟩
theorem hexF_len:∀ (k n:Nat),(hexF k n).length≤k
 | 0,n=>by simp [hexF]
 | k+1,n=>by
  have:=hexF_len k (n / 16)
  rw [hexF];split <;> simp <;> omega
def hexU (u:Nat):List UInt8:=Lib.toUpperA (hexF 6 u)
set_option maxHeartbeats 1000000 in
theorem capitals_any (u:Nat) (w:World) (hT:TabB w) (hu:u≤1114111):Calls Tryz.prog 49 #[.int .i64 u] w fun e w'=>e = .returned (.string ⟨(hexU u).toArray⟩)∧Below w.heap.size w w':=by
 go_enter Tryz.func49,Tryz.ntmps49
 go_wp2_with fail
 refine (fmtInt_any u w hT hu).mono ?_
 rintro e w1 ⟨rfl,hb⟩
 go_wp2_with fail
 refine (Tryz.strings_ToUpper_ascii _ _ ?_ ?_).mono ?_
 · have:=hexF_len 6 u
   simp [ByteArray.size]
   omega
 · intro j b hj
   exact hexF_ascii 6 u b (List.mem_of_getElem? (by simpa using hj))
 · rintro e w2 ⟨rfl,hb2⟩
   go_wp2
   go_ret
   exact ⟨rfl,hb.trans (hb2.mono hb.size)⟩
end Go.Proofs
namespace Go.Proofs.YtknaoahokopplaaGreatDoor
open Go.ChangeShapes Go.WideShapes Go.ChangeAt Go.RowKit
theorem own:ownKnob Tryz.prog.godebug=none:=by kernel_rfl
theorem gTab : Tryz.prog.globalNamed "math/bits.deBruijn64tab" = some 8 := by kernel_rfl
theorem gTabType:(Tryz.prog.globals[8]?).map (·.type)=some 205:=by kernel_rfl
def intsOf:DataW Unit→List Int
 | .agg l=>l.map fun
  | .lit (.int _ z)=>z
  | _=>0
 | _=>[]
theorem dataEq:(Rows.laid_math_bits_deBruijn64tab:DataW Unit)=Lib.tabData .u8 (intsOf Rows.laid_math_bits_deBruijn64tab):=by kernel_rfl
theorem at15:((intsOf Rows.laid_math_bits_deBruijn64tab).map fun z=>Value.int .u8 z)[15]? = some (.int .u8 4):=by kernel_rfl
set_option maxRecDepth 100000 in
theorem table {W : World} {l : List (String × DataW Unit)} (h : laidMet Tryz.prog l W) (hm : ("math/bits.deBruijn64tab", (Rows.laid_math_bits_deBruijn64tab : DataW Unit)) ∈ l) : TabB W := by
 obtain ⟨g,t,cs,fuel,p,hg,ht,hv,hd⟩:=Lib.laidMet.reads h hm
 obtain rfl:=Option.some.inj (gTab.symm.trans hg)
 obtain rfl:=Option.some.inj (gTabType.symm.trans ht)
 rw [dataEq] at hd
 have hcs:=Lib.cells_of_tab Tryz.underlying205 Tryz.underlying5 (by kernel_rfl) (by kernel_rfl) hd
 have hc:=World.var?_cell gTab hv 15
 unfold TabB
 rw [hc,←at15,←hcs]
 simp
theorem witness_row_zip {H:Type} {enc:TypeId × Value→H} {C:Checked} {os:Os} {f:FuncId} {fn:Func} {s:OpenSpec} {conds:List PathCond} {apart:Bool} {laid:List (String × DataW Unit)} (modest:Bool) (w0:World) (args:Array Value) (hos:w0.os=os)
 (hsh:(w0.forCall (fun _ _=>0) ⟨#[],args,[]⟩).Shaped C.prog)
 (hok:Input.okWideB C.prog (w0.forCall (fun _ _=>0) ⟨#[],args,[]⟩) f ⟨#[],args,[]⟩=true)
 (hrow:s.preRow enc C.prog fn conds apart laid (w0.forCall (fun _ _=>0) ⟨#[],args,[]⟩).memory args) :
 ∃ (w:World) (tape:Tape) (i:Input),w.os=os∧(w.forCall tape i).Shaped C.prog∧i.vars=[]∧Input.okWide C.prog (w.forCall tape i) .any w.heap.size f i ∧
  s.preRow enc C.prog fn conds apart laid (w.forCall tape i).memory i.args∧({ modest:=modest } : Assume).holds C.prog (lone (Frame.enter C.prog f i.args .normal) [] (w.forCall tape i)):=
 ⟨w0,fun _ _=>0,⟨#[],args,[]⟩,hos,hsh,(Input.okWide_of_okWideB (base:=0) hok).1,(Input.okWide_of_okWideB hok).2,hrow,by
  simp only [Assume.holds]
  exact ⟨by simp,by simp,fun _=>Modest.zero,by simp,by simp⟩⟩
end Go.Proofs.YtknaoahokopplaaGreatDoor
namespace Go.Proofs
open Go.RowKit Go.Shelf
set_option maxRecDepth 100000
attribute [local go_sem] Oper.semAt_some
def hexB (u:Nat):ByteArray:=⟨(hexU u).toArray⟩
theorem hexB_size (u:Nat):(hexB u).size≤6:=by
 have:=hexF_len 6 u
 simp [hexB,hexU,ByteArray.size,Lib.toUpperA]
 omega
set_option maxHeartbeats 1000000 in
theorem write_hex (u:Nat) (n:Int) (w:World) (hT:TabB w) (hwd:wd u=n) (hn:n≠0) (hu:u≤1114111) (hrs:rsv u=false) (h:u<32∨126<u):Calls Tryz.prog 24 #[.int .i64 u] w fun e w'=>e = .returned (.tuple #[.string (⟨#[92,120,123]⟩++hexB u++⟨#[125]⟩),.int .i64 0])∧Below w.heap.size w w':=by
 have d0:(n == 0)=false:=by simpa using hn
 have d1:decide ((1114111:Int)<(u:Int))=false:=by simp;omega
 have d2:((u:Int) == 32)=false:=by simp;omega
 have HC:Hid (∀ W,TabB W→Calls Tryz.prog 49 #[.int .i64 u] W fun e w'=>e = .returned (.string (hexB u))∧Below W.heap.size W w'):=fun W hW=>capitals_any u W hW hu
 have hz:=hexB_size u
 generalize hexB u=x at HC hz ⊢
 have hx1:((⟨#[92,120,123]⟩:ByteArray)++x).size=3+x.size:=by rw [ByteArray.size_append];rfl
 rcases h with h | h
 · have d3:decide ((u:Int)<32)=true:=by simp;omega
   go_enter Tryz.func24,Tryz.ntmps24
   go_wp2_with (first | (go_at_call 48;refine (width_any _ _).mono ?_;rintro e w' ⟨rfl,rfl⟩;rw [hwd]) | (go_at_call 50;refine (reserved_any _ _).mono ?_;rintro e w' ⟨rfl,rfl⟩;rw [hrs]))
   refine (HC.out _ hT).mono ?_
   rintro e w1 ⟨rfl,hb⟩
   go_wp2
   go_ret2
   exact ⟨rfl,hb⟩
 · have d3:decide ((u:Int)<32)=false:=by simp;omega
   have d4:decide ((126:Int)<(u:Int))=true:=by simp;omega
   go_enter Tryz.func24,Tryz.ntmps24
   go_wp2_with (first | (go_at_call 48;refine (width_any _ _).mono ?_;rintro e w' ⟨rfl,rfl⟩;rw [hwd]) | (go_at_call 50;refine (reserved_any _ _).mono ?_;rintro e w' ⟨rfl,rfl⟩;rw [hrs]))
   refine (HC.out _ hT).mono ?_
   rintro e w1 ⟨rfl,hb⟩
   go_wp2
   go_ret2
   exact ⟨rfl,hb⟩
end Go.Proofs
namespace Go.Proofs
open Go.RowKit Go.Shelf
set_option maxRecDepth 100000
attribute [local go_sem] Oper.semAt_some
theorem wd_1 {u:Int} (h:(0≤u∧u≤127)∨(1114240≤u∧u≤1114367)):wd u=1:=by
 unfold wd Lib.runeLen
 repeat' split
 all_goals omega
theorem wd_2 {u:Int} (h:128≤u∧u≤2047):wd u=2:=by
 unfold wd Lib.runeLen
 repeat' split
 all_goals omega
theorem wd_3 {u:Int} (h:2048≤u∧u≤65535∧(u<55296∨57343<u)):wd u=3:=by
 unfold wd Lib.runeLen
 repeat' split
 all_goals omega
theorem wd_4 {u:Int} (h:65536≤u∧u≤1114111):wd u=4:=by
 unfold wd Lib.runeLen
 repeat' split
 all_goals omega
set_option maxHeartbeats 1000000 in
theorem rwidth_any (u:Int) (w:World):Calls Tryz.prog 125 #[.int .i64 u] w fun e w'=>e = .returned (.int .i64 (wd u))∧w'=w:=by
 go_enter Tryz.func125,Tryz.ntmps125
 go_wp2
 all_goals (go_ret;refine ⟨?_,rfl⟩;first | (rw [wd_1 (by omega)];rfl) | (rw [wd_2 (by omega)];rfl) | (rw [wd_3 (by omega)];rfl) | (rw [wd_4 (by omega)];rfl) | (rw [wd_no (by omega) (by omega)];rfl))
theorem app_mk (a b:Array UInt8):(⟨a⟩:ByteArray)++⟨b⟩=⟨a++b⟩:=ByteArray.ext (by simp)
theorem hexDig:∀ d:Fin 16,(⟨#[48,49,50,51,52,53,54,55,56,57,65,66,67,68,69,70]⟩:ByteArray).extract d.val (d.val+1)=⟨#[Lib.upperB (dgc d.val)]⟩:=by decide +kernel
theorem quo16 (n:Nat) (hn:n≤16777215) (W:World):(binOp .quo 3 (.int .i64 n) (.int .i64 16)).run Tryz.prog W = .ok (.int .i64 ((n / 16:Nat):Int)) W:=by
 go_simp
 simp [IntKind.wrap,IntKind.signed,IntKind.bits]
 omega
theorem rem16 (n:Nat) (W:World):(binOp .rem 3 (.int .i64 n) (.int .i64 16)).run Tryz.prog W = .ok (.int .i64 ((n % 16:Nat):Int)) W:=by
 go_simp
 exact Int.tmod_eq_emod_of_nonneg (by omega)
set_option maxHeartbeats 1000000 in
theorem hexR_one (n:Nat) (w:World) (hn16:n<16):Calls Tryz.prog 192 #[.int .i64 n] w fun e w'=>e = .returned (.string ⟨#[Lib.upperB (dgc n)]⟩)∧w'=w:=by
 have hni:(n:Int)<16:=by omega
 have he:=hexDig ⟨n,hn16⟩
 simp only at he
 go_enter Tryz.func192,Tryz.ntmps192
 go_wp2
 go_ret
 exact ⟨rfl,rfl⟩
set_option maxHeartbeats 1000000 in
theorem hexR_any:∀ (k n:Nat) (w:World),n<16 ^ (k+1)→k≤5→Calls Tryz.prog 192 #[.int .i64 n] w fun e w'=>e = .returned (.string ⟨(Lib.toUpperA (hexF (k+1) n)).toArray⟩)∧w'=w:=by
 intro k
 induction k with
 | zero=>
  intro n w hn _
  have hn16:n<16:=by simpa using hn
  rw [hexF_last hn16]
  exact hexR_one n w hn16
 | succ k ih=>
  intro n w hn hk
  by_cases hn16:n<16
  · rw [hexF_last hn16]
    exact hexR_one n w hn16
  · rw [hexF_step (by omega)]
    have hd:decide ((n:Int)<16)=false:=by simp;omega
    have hdiv:n / 16<16 ^ (k+1):=by rw [Nat.pow_succ] at hn;omega
    have hnb:n≤16777215:=by
     have:16 ^ (k+1+1)≤16 ^ 6:=Nat.pow_le_pow_right (by omega) (by omega)
     omega
    have hq:=quo16 n hnb
    have hrm:=rem16 n
    have HI:Hid (∀ W:World,Calls Tryz.prog 192 #[.int .i64 ((n / 16:Nat):Int)] W fun e w'=>e = .returned (.string ⟨(Lib.toUpperA (hexF (k+1) (n / 16))).toArray⟩)∧w'=W):=fun W=>ih (n / 16) W hdiv (by omega)
    have HO:Hid (∀ W:World,Calls Tryz.prog 192 #[.int .i64 ((n % 16:Nat):Int)] W fun e w'=>e = .returned (.string ⟨#[Lib.upperB (dgc (n % 16))]⟩)∧w'=W):=fun W=>hexR_one (n % 16) W (by omega)
    have hz:(hexF (k+1) (n / 16)).length≤6:=by have:=hexF_len (k+1) (n / 16);omega
    have ht:Lib.toUpperA (hexF (k+1) (n / 16)++[dgc (n % 16)])=Lib.toUpperA (hexF (k+1) (n / 16))++[Lib.upperB (dgc (n % 16))]:=by simp [Lib.toUpperA]
    rw [ht]
    have hz2:(Lib.toUpperA (hexF (k+1) (n / 16))).length≤6:=by simpa [Lib.toUpperA] using hz
    generalize Lib.toUpperA (hexF (k+1) (n / 16))=L at HI hz2 ⊢
    generalize Lib.upperB (dgc (n % 16))=c at HO ⊢
    clear ih ht hz
    go_enter Tryz.func192,Tryz.ntmps192
    go_wp2_with fail
    refine (HI.out _).mono ?_
    rintro e w1 ⟨rfl,rfl⟩
    go_wp2_with fail
    refine (HO.out _).mono ?_
    rintro e w2 ⟨rfl,rfl⟩
    go_wp2_with fail
    go_ret
    refine ⟨?_,rfl⟩
    show Ending.returned (.string (⟨L.toArray⟩++⟨#[c]⟩))=_
    rw [app_mk]
    simp
theorem idx_eq (c:UInt8) (l:List UInt8):Lib.indexByte (c::l) c=0:=by rw [Lib.indexByte,if_pos (by simp)]
theorem idx_ne {b c:UInt8} (h:b≠c) (l:List UInt8):Lib.indexByte (b::l) c=if Lib.indexByte l c = -1 then -1 else Lib.indexByte l c+1:=by
 rw [Lib.indexByte,if_neg (by simpa using h)]
 simp only [beq_iff_eq]
set_option maxHeartbeats 1000000 in
theorem in_any (c:UInt8) (s:ByteArray) (w:World) (hs:s.size≤1000):Calls Tryz.prog 80 #[.int .u8 c.toNat,.string s] w fun e w'=>e = .returned (.int .i64 (Lib.indexByte s.data.toList c))∧w'=w:=by
 obtain ⟨r,hr⟩:∃ r,Lib.indexByte s.data.toList c=r:=⟨_,rfl⟩
 have HR:Hid (Lib.indexByte s.data.toList c=r):=hr
 rw [hr]
 clear hr
 go_enter Tryz.func80,Tryz.ntmps80
 go_wp2
 go_loopw [5] (fun vi wr=>∃ k:Nat,vi = .int .i64 k∧k≤s.size∧Hid (r=if Lib.indexByte (s.data.toList.drop k) c = -1 then -1 else (k:Int)+Lib.indexByte (s.data.toList.drop k) c)∧wr=w) (fun vi _=>s.size - (intOf vi).toNat)
 case atStart=>
  refine ⟨0,rfl,by omega,?_,rfl⟩
  show r=_
  rw [←HR.out,List.drop_zero]
  split
  · assumption
  · simp
 case round=>
  obtain ⟨k,rfl,hk,hS,rfl⟩:=hrel
  clear HR
  by_cases hkn:k<s.size
  · have hki:(k:Int)<(s.size:Int):=by omega
    have hS2:=hS.out
    rw [drop_at hkn] at hS2
    by_cases he:s[k]=c
    · rw [he,idx_eq,if_neg (by decide)] at hS2
      have HS:Hid (r=(k:Int)):=by show r=_;simpa using hS2
      have hcc:((s[k].toNat:Int) == (c.toNat:Int))=true:=by rw [he];simp
      clear hS hS2
      go_wp2
      go_ret
      exact ⟨by rw [HS.out];rfl,rfl⟩
    · rw [idx_ne he] at hS2
      have HS:Hid (r=if Lib.indexByte (s.data.toList.drop (k+1)) c = -1 then -1 else ((k+1:Nat):Int)+Lib.indexByte (s.data.toList.drop (k+1)) c):=by
       show r=_
       rw [hS2]
       have hb:=(idx_bound (s.data.toList.drop (k+1)) c).1
       generalize Lib.indexByte (s.data.toList.drop (k+1)) c=i at hb ⊢
       by_cases h1:i = -1
       · subst h1;rfl
       · rw [if_neg h1,if_neg h1,if_neg (by omega)]
         push_cast
         omega
      have hcc:((s[k].toNat:Int) == (c.toNat:Int))=false:=by
       rw [beq_eq_false_iff_ne]
       intro e
       exact he (UInt8.toNat_inj.1 (Int.ofNat_inj.1 e))
      clear hS hS2
      go_wp2
      exact ⟨⟨k+1,by go_num,by omega,HS,(by first | rfl | trivial)⟩,by simp [intOf];omega⟩
  · have HS:Hid (r = -1):=by
     have:=hS.out
     rw [List.drop_of_length_le (by simp;omega)] at this
     show r=_
     simpa [Lib.indexByte] using this
    clear hS
    go_wp2
    go_ret
    exact ⟨by rw [HS.out];rfl,rfl⟩
theorem sgn_at:∀ d:Fin 13,(⟨#[62,59,123,125,124,94,36,46,91,93,45,61,58]⟩:ByteArray).extract d.val (d.val+1)=⟨#[sgnL[d.val]'d.isLt]⟩:=by decide +kernel
def signB (k:Int):ByteArray:=if 10≤k∧k<23 then ⟨#[sgnL.getD (k - 10).toNat 0]⟩ else ⟨#[]⟩
end Go.Proofs
