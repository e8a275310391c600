/-
  The layer's small functions and the iterator of All do what the plain functions below say.
-/
import Derived.RangeFuncNested
import Derived.RangeFuncBound
import Derived.RangeFuncCalls
import Derived.RangeFuncLeaves
import Derived.Shelf.Abstract
import Derived.Shelf.RegionOpen
import Derived.WalkKit
import Derived.WalkSpells
import Derived.WalkLawsBesides
import Derived.OwnWalkIn
import Derived.TacticsInMore
import Derived.LoopNIn
import Derived.LoopIn
import Derived.BigQuiet
import Derived.Deep.QuietTactic
import Derived.Lib.OthersKept
import Derived.Lib.IndexBytes
import Derived.Test.YtknaoahokopplaaGreatDoorMgak
namespace Go.Proofs
open Go.RowKit Go.Shelf
set_option maxRecDepth 100000
attribute [local go_sem] Oper.semAt_some
set_option maxHeartbeats 400000 in
theorem stray_yes (u:Int) (w:World) (h1:1114240≤u) (h2:u≤1114367):Calls Tryz.prog 94 #[.int .i64 u] w fun e w'=>e = .returned (.bool true)∧w'=w:=by
 go_enter Tryz.func94,Tryz.ntmps94
 go_wp2
 go_ret
 exact ⟨by simp,rfl⟩
set_option maxHeartbeats 400000 in
theorem stray_no (u:Int) (w:World) (h1:u<1114240∨1114367<u):Calls Tryz.prog 94 #[.int .i64 u] w fun e w'=>e = .returned (.bool false)∧w'=w:=by
 by_cases h:u<1114240
 · have hd:decide (1114240≤u)=false:=by simp;omega
   go_enter Tryz.func94,Tryz.ntmps94
   go_wp2
   go_ret
   exact ⟨by simp,rfl⟩
 · have hd:decide (u≤1114367)=false:=by simp;omega
   have hd:decide (1114240≤u)=true:=by simp;omega
   go_enter Tryz.func94,Tryz.ntmps94
   go_wp2
   go_ret
   exact ⟨by simp,rfl⟩
set_option maxHeartbeats 400000 in
theorem isRune_yes (u:Int) (w:World) (h0:0≤u) (h1:u≤1114111) (h2:u<55296∨57343<u):Calls Tryz.prog 95 #[.int .i64 u] w fun e w'=>e = .returned (.bool true)∧w'=w:=by
 have hv:Lib.validRune u=true:=by simp [Lib.validRune];omega
 go_enter Tryz.func95,Tryz.ntmps95
 go_wp2_with (go_at_call 136;refine (Tryz.utf8_ValidRune _ _).mono ?_;rintro e w' ⟨rfl,rfl⟩)
 go_ret
 exact ⟨by simp,rfl⟩
set_option maxHeartbeats 400000 in
theorem isRune_no (u:Int) (w:World) (h1:u<0∨1114111<u∨(55296≤u∧u≤57343)):Calls Tryz.prog 95 #[.int .i64 u] w fun e w'=>e = .returned (.bool false)∧w'=w:=by
 by_cases a:u<0
 · have hd:decide (0≤u)=false:=by simp;omega
   go_enter Tryz.func95,Tryz.ntmps95
   go_wp2_with (go_at_call 136;refine (Tryz.utf8_ValidRune _ _).mono ?_;rintro e w' ⟨rfl,rfl⟩)
   go_ret
   exact ⟨by simp,rfl⟩
 · have ha:0≤u:=by omega
   by_cases b:1114111<u
   · have hd:decide (u≤1114111)=false:=by simp;omega
     go_enter Tryz.func95,Tryz.ntmps95
     go_wp2_with (go_at_call 136;refine (Tryz.utf8_ValidRune _ _).mono ?_;rintro e w' ⟨rfl,rfl⟩)
     go_ret
     exact ⟨by simp,rfl⟩
   · have hb:u≤1114111:=by omega
     have hv:Lib.validRune u=false:=by simp [Lib.validRune];omega
     go_enter Tryz.func95,Tryz.ntmps95
     go_wp2_with (go_at_call 136;refine (Tryz.utf8_ValidRune _ _).mono ?_;rintro e w' ⟨rfl,rfl⟩)
     go_ret
     exact ⟨by simp,rfl⟩
def wd (u:Int):Int:=if 1114240≤u∧u≤1114367 then 1 else if (0≤u∧u<55296)∨(57343<u∧u≤1114111) then Lib.runeLen u else 0
theorem wd_stray {u:Int} (h:1114240≤u∧u≤1114367):wd u=1:=by unfold wd;rw [if_pos h]
theorem wd_rune {u:Int} (h:(0≤u∧u<55296)∨(57343<u∧u≤1114111)):wd u=Lib.runeLen u:=by unfold wd;rw [if_neg (by omega),if_pos h]
theorem wd_no {u:Int} (h1:u<1114240∨1114367<u) (h:u<0∨1114111<u∨(55296≤u∧u≤57343)):wd u=0:=by unfold wd;rw [if_neg (by omega),if_neg (by omega)]
set_option maxHeartbeats 400000 in
theorem width_any (u:Int) (w:World):Calls Tryz.prog 48 #[.int .i64 u] w fun e w'=>e = .returned (.int .i64 (wd u))∧w'=w:=by
 by_cases a:1114240≤u∧u≤1114367
 · rw [wd_stray a]
   go_enter Tryz.func48,Tryz.ntmps48
   go_wp2_with (go_at_call 94;refine (stray_yes _ _ a.1 a.2).mono ?_;rintro e w' ⟨rfl,rfl⟩)
   go_ret
   exact ⟨rfl,rfl⟩
 · have a':u<1114240∨1114367<u:=by omega
   by_cases b:(0≤u∧u<55296)∨(57343<u∧u≤1114111)
   · rw [wd_rune b]
     have b0:0≤u:=by omega
     have b1:u≤1114111:=by omega
     have b2:u<55296∨57343<u:=by omega
     clear a b
     go_enter Tryz.func48,Tryz.ntmps48
     go_wp2_with (first | (go_at_call 94;refine (stray_no _ _ a').mono ?_;rintro e w' ⟨rfl,rfl⟩) | (go_at_call 95;refine (isRune_yes _ _ b0 b1 b2).mono ?_;rintro e w' ⟨rfl,rfl⟩) | (go_at_call 96;refine (Tryz.utf8_RuneLen _ _).mono ?_;rintro e w' ⟨rfl,rfl⟩))
     go_ret
     exact ⟨rfl,rfl⟩
   · have b':u<0∨1114111<u∨(55296≤u∧u≤57343):=by omega
     rw [wd_no a' b']
     clear a b
     go_enter Tryz.func48,Tryz.ntmps48
     go_wp2_with (first | (go_at_call 94;refine (stray_no _ _ a').mono ?_;rintro e w' ⟨rfl,rfl⟩) | (go_at_call 95;refine (isRune_no _ _ b').mono ?_;rintro e w' ⟨rfl,rfl⟩) | (go_at_call 96;refine (Tryz.utf8_RuneLen _ _).mono ?_;rintro e w' ⟨rfl,rfl⟩))
     go_ret
     exact ⟨rfl,rfl⟩
def put (u:Int):ByteArray:=if 1114240≤u∧u≤1114367 then ⟨#[UInt8.ofNat (u - 1114112).toNat]⟩ else if (0≤u∧u<55296)∨(57343<u∧u≤1114111) then Utf8.encode u else ByteArray.empty
theorem put_stray {u:Int} (h:1114240≤u∧u≤1114367):put u=⟨#[UInt8.ofNat (u - 1114112).toNat]⟩:=by unfold put;rw [if_pos h]
theorem put_rune {u:Int} (h:(0≤u∧u<55296)∨(57343<u∧u≤1114111)):put u=Utf8.encode u:=by unfold put;rw [if_neg (by omega),if_pos h]
theorem put_no {u:Int} (h1:u<1114240∨1114367<u) (h:u<0∨1114111<u∨(55296≤u∧u≤57343)):put u=ByteArray.empty:=by unfold put;rw [if_neg (by omega),if_neg (by omega)]
theorem put_conv (u:Int) (h1:1114240≤u) (h2:u≤1114367) (w:World):(convert 50 9 (.slice (some ⟨w.heap.size,0,none⟩) 1 1)).run Tryz.prog (w.alloc (.cells #[.int .u8 (u - 1114112)] 5)) = .ok (.string ⟨#[UInt8.ofNat (u - 1114112).toNat]⟩) (w.alloc (.cells #[.int .u8 (u - 1114112)] 5)):=by
 have h:=run_convert_bytes_back (P:=Tryz.prog) (w.alloc (.cells #[.int .u8 (u - 1114112)] 5)) 50 9 5 ⟨w.heap.size,0,none⟩ 1 [UInt8.ofNat (u - 1114112).toNat] Tryz.underlying50 Tryz.underlying5 Tryz.underlying9 (fun j hj=>by
  obtain rfl:j=0:=by simp at hj;omega
  have e:((UInt8.ofNat (u - 1114112).toNat).toNat:Int)=u - 1114112:=by rw [UInt8.toNat_ofNat'];omega
  simp only [List.getElem_cons_zero,e]
  simp [Addr.add])
 exact h
set_option maxHeartbeats 400000 in
theorem put_any (u:Int) (w:World):Calls Tryz.prog 51 #[.int .i64 u] w fun e w'=>e = .returned (.string (put u))∧Below w.heap.size w w':=by
 by_cases a:1114240≤u∧u≤1114367
 · rw [put_stray a]
   obtain ⟨a1,a2⟩:=a
   have hcv:=put_conv u a1 a2
   go_enter Tryz.func51,Tryz.ntmps51
   go_wp2_with (go_at_call 94;refine (stray_yes _ _ a1 a2).mono ?_;rintro e w' ⟨rfl,rfl⟩)
   go_ret
   exact ⟨rfl,(Below.refl _ _).alloc (Nat.le_refl _) _⟩
 · have a':u<1114240∨1114367<u:=by omega
   by_cases b:(0≤u∧u<55296)∨(57343<u∧u≤1114111)
   · rw [put_rune b]
     have b0:0≤u:=by omega
     have b1:u≤1114111:=by omega
     have b2:u<55296∨57343<u:=by omega
     clear a b
     go_enter Tryz.func51,Tryz.ntmps51
     go_wp2_with (first | (go_at_call 94;refine (stray_no _ _ a').mono ?_;rintro e w' ⟨rfl,rfl⟩) | (go_at_call 95;refine (isRune_yes _ _ b0 b1 b2).mono ?_;rintro e w' ⟨rfl,rfl⟩))
     go_ret
     exact ⟨rfl,Below.refl _ _⟩
   · have b':u<0∨1114111<u∨(55296≤u∧u≤57343):=by omega
     rw [put_no a' b']
     clear a b
     go_enter Tryz.func51,Tryz.ntmps51
     go_wp2_with (first | (go_at_call 94;refine (stray_no _ _ a').mono ?_;rintro e w' ⟨rfl,rfl⟩) | (go_at_call 95;refine (isRune_no _ _ b').mono ?_;rintro e w' ⟨rfl,rfl⟩))
     go_ret
     exact ⟨rfl,Below.refl _ _⟩
def fffd:List UInt8:=[239,191,189]
def strayAt (s:ByteArray) (p:Nat):Bool:=(Utf8.decode s p).1 == 65533 && !Lib.hasPrefix (s.data.toList.drop p) fffd
def uAt (s:ByteArray) (p:Nat):Nat:=if strayAt s p then 1114112+(s.get! p).toNat else (Utf8.decode s p).1
theorem uAt_stray {s:ByteArray} {p:Nat} (h:strayAt s p=true):uAt s p=1114112+(s.get! p).toNat:=by unfold uAt;rw [if_pos h]
theorem uAt_rune {s:ByteArray} {p:Nat} (h:strayAt s p=false):uAt s p=(Utf8.decode s p).1:=by unfold uAt;rw [if_neg (by simp [h])]
theorem drop_fffd (s:ByteArray) (p:Nat):Lib.hasPrefix (s.extract p s.size).data.toList (⟨#[239,191,189]⟩:ByteArray).data.toList=Lib.hasPrefix (s.data.toList.drop p) fffd:=by
 rw [Lib.extract_to_end];rfl
theorem hasP (s:ByteArray) (p:Nat) (b:Bool) (h:Lib.hasPrefix (s.data.toList.drop p) fffd=b) (w:World):Calls Tryz.prog 88 #[.string (s.extract p s.size),.string ⟨#[239,191,189]⟩] w fun e w'=>e = .returned (.bool b)∧w'=w:=by
 have k:=Tryz.strings_HasPrefix (s.extract p s.size) ⟨#[239,191,189]⟩ w
 rw [drop_fffd,h] at k
 exact k
theorem get_bang (s:ByteArray) (p:Nat) (hp:p<s.size):s.get! p=s[p]:=by
 simp [ByteArray.get!,getElem!_pos,hp];rfl
set_option maxHeartbeats 400000 in
theorem unitAt_core (s:ByteArray) (p:Nat) (r:Int) (w:World) (hs:s.size≤maxLen) (hp:p<s.size) (_hr0:0≤r) (hr1:r<1114112):Calls Tryz.prog 180 #[.string s,.int .i64 p,.int .i32 r] w fun e w'=>
 e = .returned (.int .i64 (if r=65533∧Lib.hasPrefix (s.data.toList.drop p) fffd=false then 1114112+(s[p].toNat:Int) else r))∧w'=w:=by
 have _hs2:=hs
 unfold maxLen at _hs2
 have hu:(s[p].toNat:Int)<256:=by have:=UInt8.toNat_lt s[p];omega
 by_cases a:r=65533
 · subst a
   cases b:Lib.hasPrefix (s.data.toList.drop p) fffd with
   | true=>
    rw [if_neg (by simp)]
    have H:Hid (Lib.hasPrefix (s.data.toList.drop p) fffd=_):=b
    clear b
    go_enter Tryz.func180,Tryz.ntmps180
    go_wp2_with (go_at_call 88;refine (hasP s p _ H.out _).mono ?_;rintro e w' ⟨rfl,rfl⟩)
    go_ret
    exact ⟨rfl,rfl⟩
   | false=>
    rw [if_pos ⟨rfl,rfl⟩]
    have H:Hid (Lib.hasPrefix (s.data.toList.drop p) fffd=_):=b
    clear b
    go_enter Tryz.func180,Tryz.ntmps180
    go_wp2_with (go_at_call 88;refine (hasP s p _ H.out _).mono ?_;rintro e w' ⟨rfl,rfl⟩)
    go_ret
    exact ⟨rfl,rfl⟩
 · rw [if_neg (by simp [a])]
   have a':(r == 65533)=false:=by simp [a]
   go_enter Tryz.func180,Tryz.ntmps180
   go_wp2_with (go_at_call 88;refine (Tryz.strings_HasPrefix _ _ _).mono ?_;rintro e w' ⟨rfl,rfl⟩)
   go_ret
   exact ⟨rfl,rfl⟩
theorem dec_lt (s:ByteArray) (p:Nat):(Utf8.decode s p).1<1114112:=by
 unfold Utf8.decode Utf8.runeError Utf8.valid
 simp only
 have:=(s.get! (p+0)).toNat_lt
 repeat' split
 all_goals simp_all
 all_goals omega
theorem unitAt_any (s:ByteArray) (p:Nat) (w:World) (hs:s.size≤maxLen) (hp:p<s.size):Calls Tryz.prog 180 #[.string s,.int .i64 p,.int .i32 (Utf8.decode s p).1] w fun e w'=>e = .returned (.int .i64 (uAt s p))∧w'=w:=by
 have hd:=dec_lt s p
 have h:=unitAt_core s p (Utf8.decode s p).1 w hs hp (by omega) (by omega)
 refine h.mono ?_
 rintro e w' ⟨rfl,rfl⟩
 refine ⟨?_,rfl⟩
 unfold uAt strayAt
 rw [get_bang s p hp]
 by_cases a:(Utf8.decode s p).1=65533∧Lib.hasPrefix (s.data.toList.drop p) fffd=false
 · rw [if_pos ⟨by omega,a.2⟩,if_pos (by simp [a.1,a.2])];simp
 · rw [if_neg (fun c=>a ⟨by omega,c.2⟩),if_neg (by simpa using a)]
def uw (s:ByteArray) (p:Nat):Nat:=(Utf8.decode s p).2
theorem uw_pos (s:ByteArray) (p:Nat):1≤uw s p:=by
 unfold uw Utf8.decode
 simp only
 repeat' split
 all_goals simp
def unitsN (s:ByteArray):Nat→Nat→List (Nat × Nat)
 | 0,_=>[]
 | k+1,p=>if p<s.size then (p,uAt s p)::unitsN s k (p+uw s p) else []
def units (s:ByteArray):List (Nat × Nat):=unitsN s s.size 0
theorem unitsN_end (s:ByteArray) (k p:Nat) (h:¬ p<s.size):unitsN s k p=[]:=by cases k <;> simp [unitsN,h]
theorem unitsN_step (s:ByteArray) (k p:Nat) (h:p<s.size):unitsN s (k+1) p=(p,uAt s p)::unitsN s k (p+uw s p):=by simp [unitsN,h]
theorem uAt_lt (s:ByteArray) (p:Nat):uAt s p<1114368:=by
 have:=dec_lt s p
 have:=(s.get! p).toNat_lt
 unfold uAt;split <;> omega
def UU (s:ByteArray):Type := { x:Nat × Nat // x.1<s.size∧x.2<1114368 }
def UU.mk (s:ByteArray) (p:Nat) (h:p<s.size):UU s:=⟨(p,uAt s p),h,uAt_lt s p⟩
def vals {s:ByteArray} (l:List (UU s)):List (Nat × Nat):=l.map (·.1)
theorem vals_snoc {s:ByteArray} (l:List (UU s)) (x:UU s):vals (l++[x])=vals l++[x.1]:=by simp [vals]
abbrev encU {s:ByteArray} (x:UU s):Array Value:=#[.int .i64 (x.1.1:Int),.int .i64 (x.1.2:Int)]
theorem cell_up {W:World} {a:Addr} {v:Value} (h:W.cell? a=some v) (o:Obj):(W.alloc o).cell? a=some v:=cell_kept h (World.grownBy_alloc W o none) (fun r e=>by cases e)
def KpA (B:Nat) (W W':World):Prop:=KeepsWalks W W'∧(∀ v,W.cell? ⟨B,0,none⟩=some v→W'.cell? ⟨B,0,none⟩=some v)
theorem kpA_t {B:Nat} {X Y Z:World} (h:KpA B X Y) (k:KpA B Y Z):KpA B X Z:=⟨h.1.trans k.1,fun v hv=>k.2 v (h.2 v hv)⟩
theorem kpA_b {B:Nat} {w:World} (W:World) (l:Nat) (o o':Obj) (hl:w.heap.size≤l) (h:W.heap[l]? = some o) (hc:o.isCells=false) (hw:o.isWalk=false):KpA B W (W.putObj l o'):=
 ⟨walksK_b (w:=w) W l o o' hl h hc hw,fun v hv=>cell_kept hv (grownBy_putObj' W l o') (fun r e=>by cases e;exact ⟨o,h,hc⟩)⟩
set_option maxHeartbeats 1000000 in
theorem all1_in (F:Fence) (n:Nat) (hF:F=Fence.wide) (hn:1≤n) (l B:Nat) (s:ByteArray) (hs:s.size≤maxLen) (J Jx:List (UU s)→World→Prop)
 (hY:∀ pre x W,J pre W→pre.length<s.size→YieldAt F (n - 1) Tryz.prog l (encU x) W fun e W'=>
  (e = .returned (.bool true)∧J (pre++[x]) W'∧KpA B W W')∨(e = .returned (.bool false)∧Jx (pre++[x]) W'))
 (W:World) (hJ:AbidesFrom W.heap.size J) (hB:W.cell? ⟨B,0,none⟩=some (.string s)) (h0:J [] W) :
 CallsIn F n Tryz.prog 179 #[.func (.yield l) #[] #[],.pointer (some ⟨B,0,none⟩)] W fun e W'=>(∃ v,e = .returned v) ∧
  ((∃ ys,vals ys=units s∧J ys W')∨(∃ pre,(vals pre <+: units s∧pre≠[])∧Jx pre W')):=by
 subst hF
 refine callsIn_of_wp Tryz.func179 rfl trivial ?_ rfl
 simp only [Tryz.ntmps179,List.size_toArray,List.length_cons,List.length_nil,Nat.reduceAdd,Nat.reduceSub,Array.replicate_succ,Array.replicate_zero,List.push_toArray,List.append_toArray,List.nil_append,List.cons_append]
 gi_wp2
 gi_loopw [3,4] (fun _ _ wr=>∃ (pre:List (UU s)) (p k:Nat),wr.heap[W.heap.size]? = some (.stringIter s p)∧units s=vals pre++unitsN s k p∧s.size≤p+k∧pre.length≤p∧wr.cell? ⟨B,0,none⟩=some (.string s)∧J pre wr) (fun _ _ wr=>s.size - wr.iterPos W.heap.size)
 case atStart=>
  exact ⟨[],0,s.size,World.iter_heap W s 0,rfl,by omega,Nat.le_refl _,cell_up hB _,hJ [] W _ none h0 (World.grownBy_alloc W _ none) (fun r e=>by cases e)⟩
 case round=>
  obtain ⟨pre,p,k,hit,hu,hk,hl,hBr,hJr⟩:=hrel
  by_cases hp:p<s.size
  · obtain ⟨k,rfl⟩:∃ j,k=j+1:=⟨k - 1,by omega⟩
    rw [unitsN_step s k p hp] at hu
    have hU:Hid (units s=vals pre++(p,uAt s p)::unitsN s k (p+uw s p)):=hu
    clear hu
    have hnx:∀ ty,(Instr.next (.pointer (some ⟨W.heap.size,0,none⟩)) true ty).run Tryz.prog wr=_:=fun ty=>Lib.run_next_any_at wr W.heap.size s p ty hit hp
    have hit2:=Lib.iterAt_heap wr W.heap.size s p (p+(Utf8.decode s p).2) hit
    have hg2:wr.grownBy (wr.iterAt W.heap.size s (p+(Utf8.decode s p).2)) (some W.heap.size):=⟨rfl,rfl,rfl,by rw [Lib.iterAt_size];exact Nat.le_refl _,fun j _ hj=>Lib.iterAt_other wr W.heap.size j s _ (fun e=>hj (by rw [e]))⟩
    have hw2:∀ r,some W.heap.size=some r→W.heap.size≤r∧∃ o:Obj,wr.heap[r]? = some o∧o.isWalk=true:=fun r e=>by cases e;exact ⟨Nat.le_refl _,_,hit,rfl⟩
    have hJ2:=hJ pre wr _ (some W.heap.size) hJr hg2 hw2
    have hB2:=cell_kept hBr hg2 (fun r e=>by obtain ⟨_,o,ho,hw⟩:=hw2 r e;exact ⟨o,ho,Obj.not_cells_of_walk hw⟩)
    obtain ⟨fn,tmps,assign,body,hy,hR⟩:=hY pre (UU.mk s p hp) _ hJ2 (by omega)
    dsimp only [encU,UU.mk] at hy
    gi_wp2_with (refine ⟨trivial,?_⟩;gi_at_call 180;refine (callsIn_wide.2 (unitAt_any s p _ hs hp)).mono ?_;rintro e w' ⟨rfl,rfl⟩)
    refine hR.mono ?_
    rintro e W3 (⟨rfl,hJ3,hk3⟩ | ⟨rfl,hJx3⟩)
    · gi_wp2
      have hit3:=hk3.1.same _ _ hit2 rfl
      have hB3:=hk3.2 _ hB2
      have hpos:=uw_pos s p
      go_roundw
      case rel=>exact ⟨pre++[UU.mk s p hp],p+uw s p,k,hit3,by rw [hU.out,vals_snoc];simp [UU.mk],by omega,by simp;omega,hB3,hJ3⟩
      case measure=>
       rw [iterPos_of hit3,iterPos_of hit]
       unfold uw at hpos
       omega
    · gi_wp2
      refine bodyPost_ret (results_none rfl _ _ _) rfl ?_
      exact ⟨⟨_,rfl⟩,.inr ⟨pre++[UU.mk s p hp],⟨by rw [hU.out,vals_snoc];exact ⟨unitsN s k (p+uw s p),by simp [UU.mk]⟩,by simp⟩,hJx3⟩⟩
  · have hnx:∀ ty,(Instr.next (.pointer (some ⟨W.heap.size,0,none⟩)) true ty).run Tryz.prog wr=_:=fun ty=>Lib.run_next_end_at wr W.heap.size s p ty hit hp
    rw [unitsN_end s k p hp,List.append_nil] at hu
    have hU:Hid (units s=vals pre):=hu
    clear hu
    gi_wp2
    go_end0
    exact ⟨⟨_,rfl⟩,.inl ⟨pre,hU.out.symm,hJr⟩⟩
theorem all_stops (n:Nat) (hn:1≤n) (B:Nat) (s:ByteArray) (hs:s.size≤maxLen) (w:World) (hBw:B<w.heap.size) (hB:w.cell? ⟨B,0,none⟩=some (.string s)) :
 SeqStopsK Fence.wide n Tryz.prog 179 #[.pointer (some ⟨B,0,none⟩)] (encU (s:=s)) (KpA B) (fun ys=>vals ys=units s) (fun pre=>vals pre <+: units s∧pre≠[]) s.size w:=fun l J Jx W hW hJ _ hY h0=>
 all1_in Fence.wide n rfl hn l B s hs J Jx hY W hJ ((hW.cell (p:=⟨B,0,none⟩) hBw).trans hB) h0
set_option maxHeartbeats 400000 in
theorem all_any (s:ByteArray) (w:World):Calls Tryz.prog 158 #[.string s] w fun e w'=>e = .returned (.func (.func 179) #[] #[.pointer (some ⟨w.heap.size,0,none⟩)])∧w'=w.alloc (.cells #[.string s] 9):=by
 go_enter Tryz.func158,Tryz.ntmps158
 go_wp2
 go_ret
 exact ⟨rfl,rfl⟩
theorem boxed_kept {W W':World} {row:Option Nat} {B:Nat} {t:TypeId} {v:Value} (h:Boxed W B t v) (hg:W.grownBy W' row) (hr:∀ r,row=some r→∃ o:Obj,W.heap[r]? = some o∧o.isCells=false):Boxed W' B t v:=
 h.kept hg (fun e=>by obtain ⟨o,ho,hc⟩:=hr B e.symm;rw [show W.heap[B]? = _ from h] at ho;cases ho;cases hc)
theorem boxed_putObj {W:World} {B:Nat} {t:TypeId} {v:Value} (h:Boxed W B t v) {l:Nat} {o:Obj} (o':Obj) (hl:W.heap[l]? = some o) (hc:o.isCells=false):Boxed (W.putObj l o') B t v:=
 boxed_kept h (grownBy_putObj' W l o') (fun r e=>by cases e;exact ⟨o,hl,hc⟩)
end Go.Proofs
