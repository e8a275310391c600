/-
  Join makes the text of units, or tells that a number is none.
-/
import Derived.RangeFuncNested
import Derived.RangeFuncBound
import Derived.RangeFuncCalls
import Derived.RangeFuncLeaves
import Derived.Shelf.Abstract
import Derived.Shelf.RegionOpen
import Derived.WalkKit
import Derived.WalkSpells
import Derived.WalkLawsBesides
import Derived.OwnWalkIn
import Derived.TacticsInMore
import Derived.LoopNIn
import Derived.LoopIn
import Derived.BigQuiet
import Derived.RegionIn
import Derived.Deep.QuietTactic
import Derived.Lib.OthersKept
import Derived.Maps.AppendAt
import Derived.Lib.SmallJoins
import Derived.Lib.IndexBytes
import Derived.Lib.AppendStr
import Derived.Shelf.Strings.Builder1
import Derived.Shelf.Small.Utf8
import Derived.Test.YtcfcjljapamcoaaGreatDoorMptx
import Derived.Test.YtcfcjljapamcoaaGreatDoorMgkx
import Derived.Test.YtcfcjljapamcoaaGreatDoorMpdx
namespace Go.Proofs
open Go.RowKit Go.Shelf
set_option maxRecDepth 100000
attribute [local go_sem] Oper.semAt_some
open Go.RowKit in
open Go.RowKit in
open Go.RowKit in
theorem put_conv (u:Int) (h1:1114240≤u) (h2:u≤1114367) (w:World):(convert 153 9 (.slice (some ⟨w.heap.size,0,none⟩) 1 1)).run Tryz.prog (w.alloc (.cells #[.int .u8 (u - 1114112)] 5)) = .ok (.string ⟨#[UInt8.ofNat (u - 1114112).toNat]⟩) (w.alloc (.cells #[.int .u8 (u - 1114112)] 5)):=by
 have h:=run_convert_bytes_back (P:=Tryz.prog) (w.alloc (.cells #[.int .u8 (u - 1114112)] 5)) 153 9 5 ⟨w.heap.size,0,none⟩ 1 [UInt8.ofNat (u - 1114112).toNat] Tryz.underlying153 Tryz.underlying5 Tryz.underlying9 (fun j hj=>by
  obtain rfl:j=0:=by simp at hj;omega
  have e:((UInt8.ofNat (u - 1114112).toNat).toNat:Int)=u - 1114112:=by rw [UInt8.toNat_ofNat'];omega
  simp only [List.getElem_cons_zero,e]
  simp [Addr.add])
 exact h
set_option maxHeartbeats 400000 in
theorem put_any (u:Int) (w:World):Calls Tryz.prog 154 #[.int .i64 u] w fun e w'=>e = .returned (.string (put u))∧Below w.heap.size w w':=by
 by_cases a:1114240≤u∧u≤1114367
 · rw [put_stray a]
   obtain ⟨a1,a2⟩:=a
   have hcv:=put_conv u a1 a2
   go_enter Tryz.func154,Tryz.ntmps154
   go_wp2_with (go_at_call 158;refine (stray_yes _ _ a1 a2).mono ?_;rintro e w' ⟨rfl,rfl⟩)
   go_ret
   exact ⟨rfl,(Below.refl _ _).alloc (Nat.le_refl _) _⟩
 · have a':u<1114240∨1114367<u:=by omega
   by_cases b:(0≤u∧u<55296)∨(57343<u∧u≤1114111)
   · rw [put_rune b]
     have b0:0≤u:=by omega
     have b1:u≤1114111:=by omega
     have b2:u<55296∨57343<u:=by omega
     clear a b
     go_enter Tryz.func154,Tryz.ntmps154
     go_wp2_with (first | (go_at_call 158;refine (stray_no _ _ a').mono ?_;rintro e w' ⟨rfl,rfl⟩) | (go_at_call 159;refine (isRune_yes _ _ b0 b1 b2).mono ?_;rintro e w' ⟨rfl,rfl⟩))
     go_ret
     exact ⟨rfl,Below.refl _ _⟩
   · have b':u<0∨1114111<u∨(55296≤u∧u≤57343):=by omega
     rw [put_no a' b']
     clear a b
     go_enter Tryz.func154,Tryz.ntmps154
     go_wp2_with (first | (go_at_call 158;refine (stray_no _ _ a').mono ?_;rintro e w' ⟨rfl,rfl⟩) | (go_at_call 159;refine (isRune_no _ _ b').mono ?_;rintro e w' ⟨rfl,rfl⟩))
     go_ret
     exact ⟨rfl,Below.refl _ _⟩
theorem info5:(Tryz.prog.info? 5).map (fun i=>(i.zero,i.size,i.bytes))=some (some (.int .u8 0),1,1):=by kernel_rfl
def joinB:List Int→Option (List UInt8)
 | []=>some []
 | u::l=>if wd u=0 then none else (joinB l).map ((put u).data.toList ++ ·)
theorem joinB_step {u:Int} {l:List Int} (h:wd u≠0):joinB (u::l)=(joinB l).map ((put u).data.toList ++ ·):=by simp [joinB,h]
theorem put_size_le (u:Int):(put u).size≤4:=by
 by_cases a:1114240≤u∧u≤1114367
 · rw [put_stray a];show 1≤4;decide
 · by_cases b:(0≤u∧u<55296)∨(57343<u∧u≤1114111)
   · rw [put_rune b]
     obtain ⟨c,rfl⟩:∃ c:Nat,u=c:=⟨u.toNat,by omega⟩
     by_cases h1:c<128
     · rw [enc1 c h1,size_lit];simp
     · by_cases h2:c<2048
       · rw [enc2 c (by omega) h2,size_lit];simp
       · by_cases h3:c<65536
         · rw [enc3 c (by omega) h3 (by omega),size_lit];simp
         · rw [enc4 c (by omega) (by omega),size_lit];simp
   · rw [put_no (by omega) (by omega)];exact Nat.zero_le _
def JoinRes (o:Option (List UInt8)):Value:=match o with
 | some t => .tuple #[.string ⟨t.toArray⟩,.int .i64 0]
 | none => .tuple #[.string ⟨#[]⟩,.int .i64 11]
theorem IR.ints {w:World} {v:Value} {l:List Int} (h:IR w v l):Ints w v l:=by
 obtain ⟨A,c,rfl,_,hr⟩:=h
 refine ⟨A,c,rfl,?_⟩
 rcases hr with hr | ⟨g,o,rfl,hd⟩
 · exact .inl hr
 · exact .inr ⟨g,o,rfl,fun j hj=>by rw [hd j hj];simp [hj]⟩
end Go.Proofs
