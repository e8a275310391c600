/-
  Several texts in one (Uan Shelfn).
-/
import Derived.Shelf.Abstract
import Derived.Shelf.RegionOpen
import Derived.Shelf.Small.Utf8
import Derived.WalkKit
import Derived.WalkSpells
import Derived.WalkLawsBesides
import Derived.BigQuiet
import Derived.Deep.QuietTactic
import Derived.WalkMore
import Derived.Test.YtcfcjljapamcoaaGreatDoorProg
import Derived.Shelf.SlSorted.Search
namespace Go.Proofs
open Go.RowKit Go.Shelf
set_option maxRecDepth 100000
attribute [local go_sem] Oper.semAt_some
def Tryz.lays118_ren:Go.Shelf.Ren:=⟨fun | 118=>160 | n=>n,fun | 21=>21 | 3=>3 | 4=>4 | n=>n,fun | n=>n⟩
theorem Tryz.lays118:Go.Proofs.Lays.n118 Tryz.prog Tryz.lays118_ren := {
 mixed:=by kernel_rfl
 f118:=Tryz.func160.trans (congrArg some (by kernel_rfl))
 t3:=Tryz.underlying3
 a3:=Tryz.isAgg3
 z3:=Tryz.sizeOf3
 v3:=Tryz.zeroValue3
 t4:=Tryz.underlying4
 a4:=Tryz.isAgg4
 z4:=Tryz.sizeOf4
 v4:=Tryz.zeroValue4
 t21:=Tryz.underlying21
 a21:=Tryz.isAgg21
 z21:=Tryz.sizeOf21
 v21:=Tryz.zeroValue21 }
theorem Tryz.utf8_RuneLen (r:Int) (w:World) :
 Calls Tryz.prog 160 #[.int .i32 r] w fun e w'=>e = .returned (.int .i64 (Lib.runeLen r))∧w'=w:=Any.utf8_RuneLen Tryz.lays118 r w
def Tryz.lays119_ren:Go.Shelf.Ren:=⟨fun | 119=>183 | n=>n,fun | 21=>21 | 4=>4 | n=>n,fun | n=>n⟩
theorem Tryz.lays119:Go.Proofs.Lays.n119 Tryz.prog Tryz.lays119_ren := {
 mixed:=by kernel_rfl
 f119:=Tryz.func183.trans (congrArg some (by kernel_rfl))
 t4:=Tryz.underlying4
 a4:=Tryz.isAgg4
 z4:=Tryz.sizeOf4
 v4:=Tryz.zeroValue4
 t21:=Tryz.underlying21
 a21:=Tryz.isAgg21
 z21:=Tryz.sizeOf21
 v21:=Tryz.zeroValue21 }
theorem Tryz.utf8_ValidRune (r:Int) (w:World) :
 Calls Tryz.prog 183 #[.int .i32 r] w fun e w'=>e = .returned (.bool (Lib.validRune r))∧w'=w:=Any.utf8_ValidRune Tryz.lays119 r w
set_option maxHeartbeats 400000 in
theorem stray_yes (u:Int) (w:World) (h1:1114240≤u) (h2:u≤1114367):Calls Tryz.prog 158 #[.int .i64 u] w fun e w'=>e = .returned (.bool true)∧w'=w:=by
 go_enter Tryz.func158,Tryz.ntmps158
 go_wp2
 go_ret
 exact ⟨by simp,rfl⟩
set_option maxHeartbeats 400000 in
theorem stray_no (u:Int) (w:World) (h1:u<1114240∨1114367<u):Calls Tryz.prog 158 #[.int .i64 u] w fun e w'=>e = .returned (.bool false)∧w'=w:=by
 by_cases h:u<1114240
 · have hd:decide (1114240≤u)=false:=by simp;omega
   go_enter Tryz.func158,Tryz.ntmps158
   go_wp2
   go_ret
   exact ⟨by simp,rfl⟩
 · have hd:decide (u≤1114367)=false:=by simp;omega
   have hd:decide (1114240≤u)=true:=by simp;omega
   go_enter Tryz.func158,Tryz.ntmps158
   go_wp2
   go_ret
   exact ⟨by simp,rfl⟩
set_option maxHeartbeats 400000 in
theorem isRune_yes (u:Int) (w:World) (h0:0≤u) (h1:u≤1114111) (h2:u<55296∨57343<u):Calls Tryz.prog 159 #[.int .i64 u] w fun e w'=>e = .returned (.bool true)∧w'=w:=by
 have hv:Lib.validRune u=true:=by simp [Lib.validRune];omega
 go_enter Tryz.func159,Tryz.ntmps159
 go_wp2_with (go_at_call 183;refine (Tryz.utf8_ValidRune _ _).mono ?_;rintro e w' ⟨rfl,rfl⟩)
 go_ret
 exact ⟨by simp,rfl⟩
set_option maxHeartbeats 400000 in
theorem isRune_no (u:Int) (w:World) (h1:u<0∨1114111<u∨(55296≤u∧u≤57343)):Calls Tryz.prog 159 #[.int .i64 u] w fun e w'=>e = .returned (.bool false)∧w'=w:=by
 by_cases a:u<0
 · have hd:decide (0≤u)=false:=by simp;omega
   go_enter Tryz.func159,Tryz.ntmps159
   go_wp2_with (go_at_call 183;refine (Tryz.utf8_ValidRune _ _).mono ?_;rintro e w' ⟨rfl,rfl⟩)
   go_ret
   exact ⟨by simp,rfl⟩
 · have ha:0≤u:=by omega
   by_cases b:1114111<u
   · have hd:decide (u≤1114111)=false:=by simp;omega
     go_enter Tryz.func159,Tryz.ntmps159
     go_wp2_with (go_at_call 183;refine (Tryz.utf8_ValidRune _ _).mono ?_;rintro e w' ⟨rfl,rfl⟩)
     go_ret
     exact ⟨by simp,rfl⟩
   · have hb:u≤1114111:=by omega
     have hv:Lib.validRune u=false:=by simp [Lib.validRune];omega
     go_enter Tryz.func159,Tryz.ntmps159
     go_wp2_with (go_at_call 183;refine (Tryz.utf8_ValidRune _ _).mono ?_;rintro e w' ⟨rfl,rfl⟩)
     go_ret
     exact ⟨by simp,rfl⟩
def wd (u:Int):Int:=if 1114240≤u∧u≤1114367 then 1 else if (0≤u∧u<55296)∨(57343<u∧u≤1114111) then Lib.runeLen u else 0
theorem wd_stray {u:Int} (h:1114240≤u∧u≤1114367):wd u=1:=by unfold wd;rw [if_pos h]
theorem wd_rune {u:Int} (h:(0≤u∧u<55296)∨(57343<u∧u≤1114111)):wd u=Lib.runeLen u:=by unfold wd;rw [if_neg (by omega),if_pos h]
theorem wd_no {u:Int} (h1:u<1114240∨1114367<u) (h:u<0∨1114111<u∨(55296≤u∧u≤57343)):wd u=0:=by unfold wd;rw [if_neg (by omega),if_neg (by omega)]
set_option maxHeartbeats 400000 in
theorem width_any (u:Int) (w:World):Calls Tryz.prog 126 #[.int .i64 u] w fun e w'=>e = .returned (.int .i64 (wd u))∧w'=w:=by
 by_cases a:1114240≤u∧u≤1114367
 · rw [wd_stray a]
   go_enter Tryz.func126,Tryz.ntmps126
   go_wp2_with (go_at_call 158;refine (stray_yes _ _ a.1 a.2).mono ?_;rintro e w' ⟨rfl,rfl⟩)
   go_ret
   exact ⟨rfl,rfl⟩
 · have a':u<1114240∨1114367<u:=by omega
   by_cases b:(0≤u∧u<55296)∨(57343<u∧u≤1114111)
   · rw [wd_rune b]
     have b0:0≤u:=by omega
     have b1:u≤1114111:=by omega
     have b2:u<55296∨57343<u:=by omega
     clear a b
     go_enter Tryz.func126,Tryz.ntmps126
     go_wp2_with (first | (go_at_call 158;refine (stray_no _ _ a').mono ?_;rintro e w' ⟨rfl,rfl⟩) | (go_at_call 159;refine (isRune_yes _ _ b0 b1 b2).mono ?_;rintro e w' ⟨rfl,rfl⟩) | (go_at_call 160;refine (Tryz.utf8_RuneLen _ _).mono ?_;rintro e w' ⟨rfl,rfl⟩))
     go_ret
     exact ⟨rfl,rfl⟩
   · have b':u<0∨1114111<u∨(55296≤u∧u≤57343):=by omega
     rw [wd_no a' b']
     clear a b
     go_enter Tryz.func126,Tryz.ntmps126
     go_wp2_with (first | (go_at_call 158;refine (stray_no _ _ a').mono ?_;rintro e w' ⟨rfl,rfl⟩) | (go_at_call 159;refine (isRune_no _ _ b').mono ?_;rintro e w' ⟨rfl,rfl⟩) | (go_at_call 160;refine (Tryz.utf8_RuneLen _ _).mono ?_;rintro e w' ⟨rfl,rfl⟩))
     go_ret
     exact ⟨rfl,rfl⟩
theorem wd_1 {u:Int} (h:(0≤u∧u≤127)∨(1114240≤u∧u≤1114367)):wd u=1:=by
 unfold wd Lib.runeLen
 repeat' split
 all_goals omega
theorem wd_2 {u:Int} (h:128≤u∧u≤2047):wd u=2:=by
 unfold wd Lib.runeLen
 repeat' split
 all_goals omega
theorem wd_3 {u:Int} (h:2048≤u∧u≤65535∧(u<55296∨57343<u)):wd u=3:=by
 unfold wd Lib.runeLen
 repeat' split
 all_goals omega
theorem wd_4 {u:Int} (h:65536≤u∧u≤1114111):wd u=4:=by
 unfold wd Lib.runeLen
 repeat' split
 all_goals omega
end Go.Proofs
namespace Go.Proofs
open Go.Shelf
def Tryz.search_ren:Go.Shelf.Ren:=⟨fun | 16=>128 | n=>n,fun | 3=>3 | 35=>105 | 4=>4 | 38=>189 | n=>n,fun | n=>n⟩
theorem Tryz.search:Go.Proofs.SlLaysO.n16 Tryz.prog Tryz.search_ren := {
 mixed:=by kernel_rfl
 f16:=Tryz.func128.trans (congrArg some (by kernel_rfl))
 t3:=Tryz.underlying3
 a3:=Tryz.isAgg3
 z3:=Tryz.sizeOf3
 v3:=Tryz.zeroValue3
 t4:=Tryz.underlying4
 a4:=Tryz.isAgg4
 z4:=Tryz.sizeOf4
 v4:=Tryz.zeroValue4
 t35:=Tryz.underlying105
 a35:=Tryz.isAgg105
 z35:=Tryz.sizeOf105
 v35:=Tryz.zeroValue105
 t38:=Tryz.underlying189
 a38:=Tryz.isAgg189
 z38:=Tryz.sizeOf189
 v38:=Tryz.zeroValue189 }
end Go.Proofs
