/-
  Several texts in one (Uzr Tdr Bqr Shelfr).
-/
import Derived.RangeFuncNested
import Derived.RangeFuncBound
import Derived.RangeFuncCalls
import Derived.RangeFuncLeaves
import Derived.Shelf.Abstract
import Derived.Shelf.RegionOpen
import Derived.WalkKit
import Derived.WalkSpells
import Derived.WalkLawsBesides
import Derived.OwnWalkIn
import Derived.TacticsInMore
import Derived.LoopNIn
import Derived.LoopIn
import Derived.BigQuiet
import Derived.Deep.QuietTactic
import Derived.Lib.OthersKept
import Derived.Lib.IndexBytes
import Derived.Shelf.Strings.Prefix
import Derived.Shelf.LaysM
import Derived.Test.YtcfcjljapamcoabGreatDoorMpar
import Derived.RegionIn
import Derived.Below
import Derived.Shelf.SlSorted.Search
import Derived.Test.YtcfcjljapamcoabGreatDoorProg
namespace Go.Proofs
open Go.RowKit Go.Shelf
set_option maxRecDepth 100000
attribute [local go_sem] Oper.semAt_some
def Tryz.lays99_ren:Go.Shelf.Ren:=⟨fun | 99=>87 | 206=>110 | n=>n,fun | 9=>9 | 4=>4 | 3=>3 | n=>n,fun | n=>n⟩
theorem Tryz.lays99:Go.Proofs.Lays.n99 Tryz.prog Tryz.lays99_ren := {
 mixed:=by kernel_rfl
 f99:=Tryz.func87.trans (congrArg some (by kernel_rfl))
 f206:=Tryz.func110.trans (congrArg some (by kernel_rfl))
 t3:=Tryz.underlying3
 a3:=Tryz.isAgg3
 z3:=Tryz.sizeOf3
 v3:=Tryz.zeroValue3
 t4:=Tryz.underlying4
 a4:=Tryz.isAgg4
 z4:=Tryz.sizeOf4
 v4:=Tryz.zeroValue4
 t9:=Tryz.underlying9
 a9:=Tryz.isAgg9
 z9:=Tryz.sizeOf9
 v9:=Tryz.zeroValue9 }
open Go.RowKit Go.Lib in
theorem Tryz.strings_HasPrefix (s p:ByteArray) (w:World) :
 Calls Tryz.prog 87 #[.string s,.string p] w fun e w'=>e = .returned (.bool (Lib.hasPrefix s.data.toList p.data.toList))∧w'=w:=Any.strings_HasPrefix Tryz.lays99 s p w
def fffd:List UInt8:=[239,191,189]
def strayAt (s:ByteArray) (p:Nat):Bool:=(Utf8.decode s p).1 == 65533 && !Lib.hasPrefix (s.data.toList.drop p) fffd
def uAt (s:ByteArray) (p:Nat):Nat:=if strayAt s p then 1114112+(s.get! p).toNat else (Utf8.decode s p).1
theorem uAt_stray {s:ByteArray} {p:Nat} (h:strayAt s p=true):uAt s p=1114112+(s.get! p).toNat:=by unfold uAt;rw [if_pos h]
theorem uAt_rune {s:ByteArray} {p:Nat} (h:strayAt s p=false):uAt s p=(Utf8.decode s p).1:=by unfold uAt;rw [if_neg (by simp [h])]
theorem drop_fffd (s:ByteArray) (p:Nat):Lib.hasPrefix (s.extract p s.size).data.toList (⟨#[239,191,189]⟩:ByteArray).data.toList=Lib.hasPrefix (s.data.toList.drop p) fffd:=by
 rw [Lib.extract_to_end];rfl
theorem hasP (s:ByteArray) (p:Nat) (b:Bool) (h:Lib.hasPrefix (s.data.toList.drop p) fffd=b) (w:World):Calls Tryz.prog 87 #[.string (s.extract p s.size),.string ⟨#[239,191,189]⟩] w fun e w'=>e = .returned (.bool b)∧w'=w:=by
 have k:=Tryz.strings_HasPrefix (s.extract p s.size) ⟨#[239,191,189]⟩ w
 rw [drop_fffd,h] at k
 exact k
theorem get_bang (s:ByteArray) (p:Nat) (hp:p<s.size):s.get! p=s[p]:=by
 simp [ByteArray.get!,getElem!_pos,hp];rfl
set_option maxHeartbeats 400000 in
theorem unitAt_core (s:ByteArray) (p:Nat) (r:Int) (w:World) (hs:s.size≤maxLen) (hp:p<s.size) (_hr0:0≤r) (hr1:r<1114112):Calls Tryz.prog 56 #[.string s,.int .i64 p,.int .i32 r] w fun e w'=>
 e = .returned (.int .i64 (if r=65533∧Lib.hasPrefix (s.data.toList.drop p) fffd=false then 1114112+(s[p].toNat:Int) else r))∧w'=w:=by
 have _hs2:=hs
 unfold maxLen at _hs2
 have hu:(s[p].toNat:Int)<256:=by have:=UInt8.toNat_lt s[p];omega
 by_cases a:r=65533
 · subst a
   cases b:Lib.hasPrefix (s.data.toList.drop p) fffd with
   | true=>
    rw [if_neg (by simp)]
    have H:Hid (Lib.hasPrefix (s.data.toList.drop p) fffd=_):=b
    clear b
    go_enter Tryz.func56,Tryz.ntmps56
    go_wp2_with (go_at_call 87;refine (hasP s p _ H.out _).mono ?_;rintro e w' ⟨rfl,rfl⟩)
    go_ret
    exact ⟨rfl,rfl⟩
   | false=>
    rw [if_pos ⟨rfl,rfl⟩]
    have H:Hid (Lib.hasPrefix (s.data.toList.drop p) fffd=_):=b
    clear b
    go_enter Tryz.func56,Tryz.ntmps56
    go_wp2_with (go_at_call 87;refine (hasP s p _ H.out _).mono ?_;rintro e w' ⟨rfl,rfl⟩)
    go_ret
    exact ⟨rfl,rfl⟩
 · rw [if_neg (by simp [a])]
   have a':(r == 65533)=false:=by simp [a]
   go_enter Tryz.func56,Tryz.ntmps56
   go_wp2_with (go_at_call 87;refine (Tryz.strings_HasPrefix _ _ _).mono ?_;rintro e w' ⟨rfl,rfl⟩)
   go_ret
   exact ⟨rfl,rfl⟩
theorem dec_lt (s:ByteArray) (p:Nat):(Utf8.decode s p).1<1114112:=by
 unfold Utf8.decode Utf8.runeError Utf8.valid
 simp only
 have:=(s.get! (p+0)).toNat_lt
 repeat' split
 all_goals simp_all
 all_goals omega
theorem unitAt_any (s:ByteArray) (p:Nat) (w:World) (hs:s.size≤maxLen) (hp:p<s.size):Calls Tryz.prog 56 #[.string s,.int .i64 p,.int .i32 (Utf8.decode s p).1] w fun e w'=>e = .returned (.int .i64 (uAt s p))∧w'=w:=by
 have hd:=dec_lt s p
 have h:=unitAt_core s p (Utf8.decode s p).1 w hs hp (by omega) (by omega)
 refine h.mono ?_
 rintro e w' ⟨rfl,rfl⟩
 refine ⟨?_,rfl⟩
 unfold uAt strayAt
 rw [get_bang s p hp]
 by_cases a:(Utf8.decode s p).1=65533∧Lib.hasPrefix (s.data.toList.drop p) fffd=false
 · rw [if_pos ⟨by omega,a.2⟩,if_pos (by simp [a.1,a.2])];simp
 · rw [if_neg (fun c=>a ⟨by omega,c.2⟩),if_neg (by simpa using a)]
def uw (s:ByteArray) (p:Nat):Nat:=(Utf8.decode s p).2
theorem uw_pos (s:ByteArray) (p:Nat):1≤uw s p:=by
 unfold uw Utf8.decode
 simp only
 repeat' split
 all_goals simp
def unitsN (s:ByteArray):Nat→Nat→List (Nat × Nat)
 | 0,_=>[]
 | k+1,p=>if p<s.size then (p,uAt s p)::unitsN s k (p+uw s p) else []
def units (s:ByteArray):List (Nat × Nat):=unitsN s s.size 0
theorem unitsN_end (s:ByteArray) (k p:Nat) (h:¬ p<s.size):unitsN s k p=[]:=by cases k <;> simp [unitsN,h]
theorem unitsN_step (s:ByteArray) (k p:Nat) (h:p<s.size):unitsN s (k+1) p=(p,uAt s p)::unitsN s k (p+uw s p):=by simp [unitsN,h]
theorem uAt_lt (s:ByteArray) (p:Nat):uAt s p<1114368:=by
 have:=dec_lt s p
 have:=(s.get! p).toNat_lt
 unfold uAt;split <;> omega
def UU (s:ByteArray):Type := { x:Nat × Nat // x.1<s.size∧x.2<1114368 }
def UU.mk (s:ByteArray) (p:Nat) (h:p<s.size):UU s:=⟨(p,uAt s p),h,uAt_lt s p⟩
def vals {s:ByteArray} (l:List (UU s)):List (Nat × Nat):=l.map (·.1)
theorem vals_snoc {s:ByteArray} (l:List (UU s)) (x:UU s):vals (l++[x])=vals l++[x.1]:=by simp [vals]
abbrev encU {s:ByteArray} (x:UU s):Array Value:=#[.int .i64 (x.1.1:Int),.int .i64 (x.1.2:Int)]
def KpA (B:Nat) (W W':World):Prop:=(∀ (k:Nat) (s:ByteArray) (p:Nat),W.heap[k]? = some (.stringIter s p)→W'.heap[k]? = some (.stringIter s p))∧(∀ v,W.cell? ⟨B,0,none⟩=some v→W'.cell? ⟨B,0,none⟩=some v)
theorem kpA_t {B:Nat} {X Y Z:World} (h:KpA B X Y) (k:KpA B Y Z):KpA B X Z:=⟨fun i s p hi=>k.1 i s p (h.1 i s p hi),fun v hv=>k.2 v (h.2 v hv)⟩
theorem kpA_b {B:Nat} {w:World} (W:World) (l:Nat) (o o':Obj) (_hl:w.heap.size≤l) (h:W.heap[l]? = some o) (hc:o.isCells=false) (hw:o.isWalk=false):KpA B W (W.putObj l o'):=
 ⟨fun k _ _ hk=>(World.putObj_heap_other (fun e=>by subst e;rw [h] at hk;cases hk;simp [Obj.isWalk] at hw)).trans hk,fun v hv=>cell_kept hv (grownBy_putObj' W l o') (fun r e=>by cases e;exact ⟨o,h,hc⟩)⟩
set_option maxHeartbeats 1000000 in
theorem all1_in (F:Fence) (n:Nat) (hF:F=Fence.wide) (hn:1≤n) (l B:Nat) (s:ByteArray) (hs:s.size≤maxLen) (J Jx:List (UU s)→World→Prop)
 (hY:∀ pre x W,J pre W→pre.length<s.size→YieldAt F (n - 1) Tryz.prog l (encU x) W fun e W'=>
  (e = .returned (.bool true)∧J (pre++[x]) W'∧KpA B W W')∨(e = .returned (.bool false)∧Jx (pre++[x]) W'))
 (W:World) (hJ:AbidesFrom W.heap.size J) (hB:W.cell? ⟨B,0,none⟩=some (.string s)) (h0:J [] W) :
 CallsIn F n Tryz.prog 55 #[.func (.yield l) #[] #[],.pointer (some ⟨B,0,none⟩)] W fun e W'=>(∃ v,e = .returned v) ∧
  ((∃ ys,vals ys=units s∧J ys W')∨(∃ pre,(vals pre <+: units s∧pre≠[])∧Jx pre W')):=by
 subst hF
 refine callsIn_of_wp Tryz.func55 rfl trivial ?_ rfl
 simp only [Tryz.ntmps55,List.size_toArray,List.length_cons,List.length_nil,Nat.reduceAdd,Nat.reduceSub,Array.replicate_succ,Array.replicate_zero,List.push_toArray,List.append_toArray,List.nil_append,List.cons_append]
 gi_wp2
 gi_loopw [3,4] (fun _ _ wr=>∃ (pre:List (UU s)) (p k:Nat),wr.heap[W.heap.size]? = some (.stringIter s p)∧units s=vals pre++unitsN s k p∧s.size≤p+k∧pre.length≤p∧wr.cell? ⟨B,0,none⟩=some (.string s)∧J pre wr) (fun _ _ wr=>s.size - wr.iterPos W.heap.size)
 case atStart=>
  exact ⟨[],0,s.size,World.iter_heap W s 0,rfl,by omega,Nat.le_refl _,cell_up hB _,hJ [] W _ none h0 (World.grownBy_alloc W _ none) (fun r e=>by cases e)⟩
 case round=>
  obtain ⟨pre,p,k,hit,hu,hk,hl,hBr,hJr⟩:=hrel
  by_cases hp:p<s.size
  · obtain ⟨k,rfl⟩:∃ j,k=j+1:=⟨k - 1,by omega⟩
    rw [unitsN_step s k p hp] at hu
    have hU:Hid (units s=vals pre++(p,uAt s p)::unitsN s k (p+uw s p)):=hu
    clear hu
    have hnx:∀ ty,(Instr.next (.pointer (some ⟨W.heap.size,0,none⟩)) true ty).run Tryz.prog wr=_:=fun ty=>Lib.run_next_any_at wr W.heap.size s p ty hit hp
    have hit2:=Lib.iterAt_heap wr W.heap.size s p (p+(Utf8.decode s p).2) hit
    have hg2:wr.grownBy (wr.iterAt W.heap.size s (p+(Utf8.decode s p).2)) (some W.heap.size):=⟨rfl,rfl,rfl,by rw [Lib.iterAt_size];exact Nat.le_refl _,fun j _ hj=>Lib.iterAt_other wr W.heap.size j s _ (fun e=>hj (by rw [e]))⟩
    have hw2:∀ r,some W.heap.size=some r→W.heap.size≤r∧∃ o:Obj,wr.heap[r]? = some o∧o.isWalk=true:=fun r e=>by cases e;exact ⟨Nat.le_refl _,_,hit,rfl⟩
    have hJ2:=hJ pre wr _ (some W.heap.size) hJr hg2 hw2
    have hB2:=cell_kept hBr hg2 (fun r e=>by obtain ⟨_,o,ho,hw⟩:=hw2 r e;exact ⟨o,ho,Obj.not_cells_of_walk hw⟩)
    obtain ⟨fn,tmps,assign,body,hy,hR⟩:=hY pre (UU.mk s p hp) _ hJ2 (by omega)
    dsimp only [encU,UU.mk] at hy
    gi_wp2_with (refine ⟨trivial,?_⟩;gi_at_call 56;refine (callsIn_wide.2 (unitAt_any s p _ hs hp)).mono ?_;rintro e w' ⟨rfl,rfl⟩)
    refine hR.mono ?_
    rintro e W3 (⟨rfl,hJ3,hk3⟩ | ⟨rfl,hJx3⟩)
    · gi_wp2
      have hit3:=hk3.1 _ _ _ hit2
      have hB3:=hk3.2 _ hB2
      have hpos:=uw_pos s p
      go_roundw
      case rel=>exact ⟨pre++[UU.mk s p hp],p+uw s p,k,hit3,by rw [hU.out,vals_snoc];simp [UU.mk],by omega,by simp;omega,hB3,hJ3⟩
      case measure=>
       rw [iterPos_of hit3,iterPos_of hit]
       unfold uw at hpos
       omega
    · gi_wp2
      refine bodyPost_ret (results_none rfl _ _ _) rfl ?_
      exact ⟨⟨_,rfl⟩,.inr ⟨pre++[UU.mk s p hp],⟨by rw [hU.out,vals_snoc];exact ⟨unitsN s k (p+uw s p),by simp [UU.mk]⟩,by simp⟩,hJx3⟩⟩
  · have hnx:∀ ty,(Instr.next (.pointer (some ⟨W.heap.size,0,none⟩)) true ty).run Tryz.prog wr=_:=fun ty=>Lib.run_next_end_at wr W.heap.size s p ty hit hp
    rw [unitsN_end s k p hp,List.append_nil] at hu
    have hU:Hid (units s=vals pre):=hu
    clear hu
    gi_wp2
    go_end0
    exact ⟨⟨_,rfl⟩,.inl ⟨pre,hU.out.symm,hJr⟩⟩
theorem all_stops (n:Nat) (hn:1≤n) (B:Nat) (s:ByteArray) (hs:s.size≤maxLen) (w:World) (hBw:B<w.heap.size) (hB:w.cell? ⟨B,0,none⟩=some (.string s)) :
 SeqStopsK Fence.wide n Tryz.prog 55 #[.pointer (some ⟨B,0,none⟩)] (encU (s:=s)) (KpA B) (fun ys=>vals ys=units s) (fun pre=>vals pre <+: units s∧pre≠[]) s.size w:=fun l J Jx W hW hJ _ hY h0=>
 all1_in Fence.wide n rfl hn l B s hs J Jx hY W hJ ((hW.cell (p:=⟨B,0,none⟩) hBw).trans hB) h0
set_option maxHeartbeats 400000 in
theorem uall_any (s:ByteArray) (w:World):Calls Tryz.prog 36 #[.string s] w fun e w'=>e = .returned (.func (.func 55) #[] #[.pointer (some ⟨w.heap.size,0,none⟩)])∧w'=w.alloc (.cells #[.string s] 9):=by
 go_enter Tryz.func36,Tryz.ntmps36
 go_wp2
 go_ret
 exact ⟨rfl,rfl⟩
theorem boxed_kept {W W':World} {row:Option Nat} {B:Nat} {t:TypeId} {v:Value} (h:Boxed W B t v) (hg:W.grownBy W' row) (hr:∀ r,row=some r→∃ o:Obj,W.heap[r]? = some o∧o.isCells=false):Boxed W' B t v:=
 h.kept hg (fun e=>by obtain ⟨o,ho,hc⟩:=hr B e.symm;rw [show W.heap[B]? = _ from h] at ho;cases ho;cases hc)
theorem boxed_putObj {W:World} {B:Nat} {t:TypeId} {v:Value} (h:Boxed W B t v) {l:Nat} {o:Obj} (o':Obj) (hl:W.heap[l]? = some o) (hc:o.isCells=false):Boxed (W.putObj l o') B t v:=
 boxed_kept h (grownBy_putObj' W l o') (fun r e=>by cases e;exact ⟨o,hl,hc⟩)
end Go.Proofs
namespace Go.Proofs
open Go.RowKit Go.Shelf
set_option maxRecDepth 100000
attribute [local go_sem] Oper.semAt_some
def firstU (s:ByteArray):Int × Int:=match units s with | []=>(0,0) | x::_=>(x.2,wd x.2)
theorem firstU_of {s:ByteArray} {x:Nat × Nat} (h:[x] <+: units s):firstU s=((x.2:Int),wd x.2):=by
 obtain ⟨t,ht⟩:=h
 unfold firstU
 rw [←ht];rfl
set_option maxHeartbeats 1000000 in
theorem first_any (s:ByteArray) (w:World) (hs:s.size≤maxLen):Calls Tryz.prog 25 #[.string s] w fun e w'=>e = .returned (.tuple #[.int .i64 (firstU s).1,.int .i64 (firstU s).2])∧Below w.heap.size w w':=by
 refine (callsIn_wide (n:=5)).1 ?_
 refine callsIn_of_wp_marks Tryz.func25 rfl trivial ?_ rfl
 simp only [Tryz.ntmps25,List.size_toArray,List.length_cons,List.length_nil,Nat.reduceAdd,Nat.reduceSub,Array.replicate_succ,Array.replicate_zero,List.push_toArray,List.append_toArray,List.nil_append,List.cons_append]
 gi_wp2_with (refine ⟨trivial,?_⟩;gi_at_call 36;refine (callsIn_wide.2 (uall_any _ _)).mono ?_;rintro e w' ⟨rfl,rfl⟩)
 have b0:Boxed (w.alloc (.cells #[.int .i64 0] 3)) w.heap.size 3 (.int .i64 0):=Boxed.new _ _ _
 have b1:Boxed ((w.alloc (.cells #[.int .i64 0] 3)).alloc (.cells #[.int .i64 0] 3)) (w.heap.size+1) 3 (.int .i64 0):=by have:=Boxed.new (w.alloc (.cells #[.int .i64 0] 3)) 3 (.int .i64 0);rwa [World.size_alloc] at this
 have b2:Boxed (((w.alloc (.cells #[.int .i64 0] 3)).alloc (.cells #[.int .i64 0] 3)).alloc (.cells #[.string s] 9)) (w.heap.size+1+1) 9 (.string s):=by have:=Boxed.new ((w.alloc (.cells #[.int .i64 0] 3)).alloc (.cells #[.int .i64 0] 3)) 9 (.string s);rwa [World.size_alloc,World.size_alloc] at this
 have hB0:Below w.heap.size w (((w.alloc (.cells #[.int .i64 0] 3)).alloc (.cells #[.int .i64 0] 3)).alloc (.cells #[.string s] 9)):=(((Below.refl _ w).alloc (Nat.le_refl _) _).alloc (by simp) _).alloc (by simp;omega) _
 refine wpIn_rangeFunc_ownF rfl (by omega) (gf:=55) (lb:=#[.pointer (some ⟨w.heap.size+1+1,0,none⟩)]) rfl trivial (enters_of Tryz.func55 (by kernel_rfl) rfl)
  (all_stops 4 (by omega) (w.heap.size+1+1) s hs _ (by simp) b2.cell) kpA_t kpA_b (Below.refl _ _) (fun _=>rfl)
  (fun pre W=>(pre=[]∧Boxed W w.heap.size 3 (.int .i64 0)∧Boxed W (w.heap.size+1) 3 (.int .i64 0))∧Below w.heap.size w W)
  (fun c pre W=>(c = .ret∧∃ x,vals pre=[x]∧Boxed W w.heap.size 3 (.int .i64 x.2)∧Boxed W (w.heap.size+1) 3 (.int .i64 (wd x.2)))∧Below w.heap.size w W)
  (OwnFrom.and (Own.from (fun s A B row hs hg hr=>⟨hs.1,boxed_kept hs.2.1 hg hr,boxed_kept hs.2.2 hg hr⟩) _) (ownFrom_below (Nat.le_refl _) (by simp;omega)))
  (fun c=>OwnFrom.and (Own.from (fun s A B row hs hg hr=>by obtain ⟨hc,x,hx,h1,h2⟩:=hs;exact ⟨hc,x,hx,boxed_kept h1 hg hr,boxed_kept h2 hg hr⟩) _) (ownFrom_below (Nat.le_refl _) (by simp;omega)))
  ⟨⟨rfl,(b0.alloc _).alloc _,b1.alloc _⟩,hB0⟩
  (fun x => { tmps:=#[.string s,undef,.pointer (some ⟨w.heap.size,0,none⟩),.pointer (some ⟨w.heap.size+1,0,none⟩),undef,.int .i64 x.1.2,.string s,.func (.func 55) #[] #[.pointer (some ⟨w.heap.size+1+1,0,none⟩)],.int .i64 x.1.1,.int .i64 x.1.2,undef,undef,undef],defers:=[] }) ?assign ?body ?done ?stop
 case assign=>
  intro l x W K hK
  gi_wp2
  exact hK
 case body=>
  rintro l pre x W ⟨⟨rfl,h1,h2⟩,hB⟩ _
  have c1:=h1.cell
  have f1:=h1.frozen
  have c2:=h2.cell
  have f2:=h2.frozen
  gi_wp2_with (refine ⟨trivial,?_⟩;gi_at_call 37;refine (CallsIn.inRound l (callsIn_wide.2 (width_any _ _))).mono ?_;rintro e w' ⟨rfl,rfl⟩)
  exact ⟨(KeepsOthers.setCell _ _ _).trans (KeepsOthers.setCell _ _ _),⟨rfl,x.1,rfl,(h1.set _).other (by omega) _,(h2.other (by omega) _).set _⟩,(hB.setCell (p:=⟨w.heap.size,0,none⟩) (Nat.le_refl _) _).setCell (p:=⟨w.heap.size+1,0,none⟩) (by simp) _⟩
 case done=>
  rintro D ys W hD hys ⟨⟨rfl,h1,h2⟩,hB⟩ hK
  have c1:=h1.cell
  have f1:=h1.frozen
  have c2:=h2.cell
  have f2:=h2.frozen
  gi_wp2
  have hK':=((KeepsOthers.setCell W ⟨w.heap.size,0,none⟩ (.int .i64 0)).trans (KeepsOthers.setCell _ ⟨w.heap.size+1,0,none⟩ (.int .i64 0))).same D _ hK rfl
  refine ⟨by simp,.inl ⟨_,_,rfl,run_takeDeferred hK',?_⟩⟩
  have g1:=(boxed_putObj ((h1.set (.int .i64 0)).other (B':=w.heap.size+1) (by omega) (.int .i64 0)) (.deferred none) hK' rfl).cell
  have g2:=(boxed_putObj ((h2.other (B':=w.heap.size) (by omega) (.int .i64 0)).set (.int .i64 0)) (.deferred none) hK' rfl).cell
  have hu:units s=[]:=hys.symm
  have hf:firstU s=(0,0):=by unfold firstU;rw [hu]
  refine ⟨.tuple #[.int .i64 0,.int .i64 0],?_,by rw [hf],((hB.setCell (p:=⟨w.heap.size,0,none⟩) (Nat.le_refl _) _).setCell (p:=⟨w.heap.size+1,0,none⟩) (by simp) _).trans (belowK_b (w:=w) (Nat.le_refl _) _ D _ _ (by simp at hD;omega) hK' rfl rfl)⟩
  simp [results,Tryz.f25,go_sem,g1,g2]
 case stop=>
  rintro D c pre W hD hpre ⟨⟨rfl,x,hx,h1,h2⟩,hB⟩ hK
  gi_wp2
  refine ⟨by simp,.inl ⟨_,_,rfl,run_takeDeferred hK,?_⟩⟩
  have g1:=(boxed_putObj h1 (.deferred none) hK rfl).cell
  have g2:=(boxed_putObj h2 (.deferred none) hK rfl).cell
  have hf:=firstU_of (s:=s) (x:=x) (by rw [←hx];exact hpre.1)
  refine ⟨.tuple #[.int .i64 x.2,.int .i64 (wd x.2)],?_,by rw [hf],hB.trans (belowK_b (w:=w) (Nat.le_refl _) W D _ _ (by simp at hD;omega) hK rfl rfl)⟩
  simp [results,Tryz.f25,go_sem,g1,g2]
end Go.Proofs
namespace Go.Proofs
open Go.RowKit Go.Shelf
structure BelowOf (w:World) where
 world:World
 below:Below w.heap.size w world
instance (w:World):Inhabited (BelowOf w):=⟨⟨w,Below.refl _ w⟩⟩
end Go.Proofs
namespace Go.Proofs
open Go.Shelf
def Tryz.search_ren:Go.Shelf.Ren:=⟨fun | 16=>39 | n=>n,fun | 3=>3 | 35=>44 | 4=>4 | 38=>116 | n=>n,fun | n=>n⟩
theorem Tryz.search:Go.Proofs.SlLaysO.n16 Tryz.prog Tryz.search_ren := {
 mixed:=by kernel_rfl
 f16:=Tryz.func39.trans (congrArg some (by kernel_rfl))
 t3:=Tryz.underlying3
 a3:=Tryz.isAgg3
 z3:=Tryz.sizeOf3
 v3:=Tryz.zeroValue3
 t4:=Tryz.underlying4
 a4:=Tryz.isAgg4
 z4:=Tryz.sizeOf4
 v4:=Tryz.zeroValue4
 t35:=Tryz.underlying44
 a35:=Tryz.isAgg44
 z35:=Tryz.sizeOf44
 v35:=Tryz.zeroValue44
 t38:=Tryz.underlying116
 a38:=Tryz.isAgg116
 z38:=Tryz.sizeOf116
 v38:=Tryz.zeroValue116 }
end Go.Proofs
