/-
  Several texts in one (Jrk Jsk).
-/
import Derived.Shelf.Abstract
import Derived.Shelf.RegionOpen
import Derived.WalkKit
import Derived.WalkSpells
import Derived.WalkLawsBesides
import Derived.BigQuiet
import Derived.Deep.QuietTactic
import Derived.Deep.LoopGhost
import Derived.WalkMore
import Derived.Test.YtknaoahokopplaaGreatDoorMgek
import Derived.Test.YtknaoahokopplaaGreatDoorMgtk
import Derived.Test.YtknaoahokopplaaGreatDoorMgzk
namespace Go.Proofs
open Go.RowKit Go.Shelf
set_option maxRecDepth 100000
attribute [local go_sem] Oper.semAt_some
theorem small (n:Nat) (h:n≤100):n≤maxLen:=by unfold maxLen;omega
def Sa:ByteArray:=⟨#[97,32,62,32,98,32,59]⟩
theorem tellsSa0:Tells 47 #[.string ⟨#[97,32,62,32,98,32,59]⟩,.bool true] 1 0 (1:Nat) 97 ⟨#[]⟩ 0 0:=
 first_bare2 ⟨#[97,32,62,32,98,32,59]⟩ 1 0 1 97 ⟨#[]⟩ 0 0 (small _ (by decide)) (by decide) (by decide) (by decide +kernel) (by decide +kernel) (by decide) (by decide) (by decide +kernel) (fun w=>bare_ok ⟨#[97,32,62,32,98,32,59]⟩ 97 1 w (small _ (by decide)) (by decide +kernel) (by decide) (by decide) (by decide) (by decide +kernel))
theorem tellsSa2:Tells 47 #[.string ⟨#[62,32,98,32,59]⟩,.bool false] 10 0 (1:Nat) 0 ⟨#[]⟩ 0 0:=
 first_sign ⟨#[62,32,98,32,59]⟩ false 0 (small _ (by decide)) (by decide) (by decide) (by decide +kernel) (by decide +kernel)
theorem tellsSa4:Tells 47 #[.string ⟨#[98,32,59]⟩,.bool false] 1 0 (1:Nat) 98 ⟨#[]⟩ 0 0:=
 first_bare ⟨#[98,32,59]⟩ false 1 0 1 98 ⟨#[]⟩ 0 0 (small _ (by decide)) (by decide) (by decide) (by decide +kernel) (by decide +kernel) (by decide) (by decide) rfl (fun w=>bare_ok ⟨#[98,32,59]⟩ 98 1 w (small _ (by decide)) (by decide +kernel) (by decide) (by decide) (by decide) (by decide +kernel))
theorem tellsSa6:Tells 47 #[.string ⟨#[59]⟩,.bool false] 11 0 (1:Nat) 0 ⟨#[]⟩ 0 0:=
 first_sign ⟨#[59]⟩ false 1 (small _ (by decide)) (by decide) (by decide) (by decide +kernel) (by decide +kernel)
def toksSa:List Tok:=[⟨1,0,1,97,⟨#[]⟩,0⟩,⟨10,2,1,0,⟨#[]⟩,0⟩,⟨1,4,1,98,⟨#[]⟩,0⟩,⟨11,6,1,0,⟨#[]⟩,0⟩]
theorem runSa:Run Sa 0 true toksSa 0 0:=
 Run.step (q:=0) (l:=1) (by decide +kernel) (by decide) tellsSa0 (by decide) (by decide) (Run.step (q:=2) (l:=1) (by decide +kernel) (by decide) tellsSa2 (by decide) (by decide) (Run.step (q:=4) (l:=1) (by decide +kernel) (by decide) tellsSa4 (by decide) (by decide) (Run.step (q:=6) (l:=1) (by decide +kernel) (by decide) tellsSa6 (by decide) (by decide) (Run.fin (by decide +kernel)))))
theorem goodSa:∀ t,t∈toksSa→GoodT t:=by
 intro t ht
 simp only [toksSa,List.mem_cons,List.not_mem_nil,or_false] at ht
 rcases ht with rfl | rfl | rfl | rfl <;> exact ⟨(fun e=>absurd e (by decide)),by decide⟩
def Sb:ByteArray:=⟨#[94,32,97,32,62,32,98,32,59]⟩
theorem tellsSb0:Tells 47 #[.string ⟨#[94,32,97,32,62,32,98,32,59]⟩,.bool true] 15 0 (1:Nat) 0 ⟨#[]⟩ 0 0:=
 first_sign ⟨#[94,32,97,32,62,32,98,32,59]⟩ true 5 (small _ (by decide)) (by decide) (by decide) (by decide +kernel) (by decide +kernel)
theorem tellsSb2:Tells 47 #[.string ⟨#[97,32,62,32,98,32,59]⟩,.bool false] 1 0 (1:Nat) 97 ⟨#[]⟩ 0 0:=
 first_bare ⟨#[97,32,62,32,98,32,59]⟩ false 1 0 1 97 ⟨#[]⟩ 0 0 (small _ (by decide)) (by decide) (by decide) (by decide +kernel) (by decide +kernel) (by decide) (by decide) rfl (fun w=>bare_ok ⟨#[97,32,62,32,98,32,59]⟩ 97 1 w (small _ (by decide)) (by decide +kernel) (by decide) (by decide) (by decide) (by decide +kernel))
theorem tellsSb4:Tells 47 #[.string ⟨#[62,32,98,32,59]⟩,.bool false] 10 0 (1:Nat) 0 ⟨#[]⟩ 0 0:=
 first_sign ⟨#[62,32,98,32,59]⟩ false 0 (small _ (by decide)) (by decide) (by decide) (by decide +kernel) (by decide +kernel)
theorem tellsSb6:Tells 47 #[.string ⟨#[98,32,59]⟩,.bool false] 1 0 (1:Nat) 98 ⟨#[]⟩ 0 0:=
 first_bare ⟨#[98,32,59]⟩ false 1 0 1 98 ⟨#[]⟩ 0 0 (small _ (by decide)) (by decide) (by decide) (by decide +kernel) (by decide +kernel) (by decide) (by decide) rfl (fun w=>bare_ok ⟨#[98,32,59]⟩ 98 1 w (small _ (by decide)) (by decide +kernel) (by decide) (by decide) (by decide) (by decide +kernel))
theorem tellsSb8:Tells 47 #[.string ⟨#[59]⟩,.bool false] 11 0 (1:Nat) 0 ⟨#[]⟩ 0 0:=
 first_sign ⟨#[59]⟩ false 1 (small _ (by decide)) (by decide) (by decide) (by decide +kernel) (by decide +kernel)
def toksSb:List Tok:=[⟨15,0,1,0,⟨#[]⟩,0⟩,⟨1,2,1,97,⟨#[]⟩,0⟩,⟨10,4,1,0,⟨#[]⟩,0⟩,⟨1,6,1,98,⟨#[]⟩,0⟩,⟨11,8,1,0,⟨#[]⟩,0⟩]
theorem runSb:Run Sb 0 true toksSb 0 0:=
 Run.step (q:=0) (l:=1) (by decide +kernel) (by decide) tellsSb0 (by decide) (by decide) (Run.step (q:=2) (l:=1) (by decide +kernel) (by decide) tellsSb2 (by decide) (by decide) (Run.step (q:=4) (l:=1) (by decide +kernel) (by decide) tellsSb4 (by decide) (by decide) (Run.step (q:=6) (l:=1) (by decide +kernel) (by decide) tellsSb6 (by decide) (by decide) (Run.step (q:=8) (l:=1) (by decide +kernel) (by decide) tellsSb8 (by decide) (by decide) (Run.fin (by decide +kernel))))))
theorem goodSb:∀ t,t∈toksSb→GoodT t:=by
 intro t ht
 simp only [toksSb,List.mem_cons,List.not_mem_nil,or_false] at ht
 rcases ht with rfl | rfl | rfl | rfl | rfl <;> exact ⟨(fun e=>absurd e (by decide)),by decide⟩
def Sc:ByteArray:=⟨#[91,99,45,97,93,32,62,32,59]⟩
theorem tellsSc0:Tells 47 #[.string ⟨#[91,99,45,97,93,32,62,32,59]⟩,.bool true] 18 0 (1:Nat) 0 ⟨#[]⟩ 0 0:=
 first_sign ⟨#[91,99,45,97,93,32,62,32,59]⟩ true 8 (small _ (by decide)) (by decide) (by decide) (by decide +kernel) (by decide +kernel)
theorem tellsSc1:Tells 47 #[.string ⟨#[99,45,97,93,32,62,32,59]⟩,.bool false] 1 0 (1:Nat) 99 ⟨#[]⟩ 0 0:=
 first_bare ⟨#[99,45,97,93,32,62,32,59]⟩ false 1 0 1 99 ⟨#[]⟩ 0 0 (small _ (by decide)) (by decide) (by decide) (by decide +kernel) (by decide +kernel) (by decide) (by decide) rfl (fun w=>bare_ok ⟨#[99,45,97,93,32,62,32,59]⟩ 99 1 w (small _ (by decide)) (by decide +kernel) (by decide) (by decide) (by decide) (by decide +kernel))
theorem tellsSc2:Tells 47 #[.string ⟨#[45,97,93,32,62,32,59]⟩,.bool false] 20 0 (1:Nat) 0 ⟨#[]⟩ 0 0:=
 first_sign ⟨#[45,97,93,32,62,32,59]⟩ false 10 (small _ (by decide)) (by decide) (by decide) (by decide +kernel) (by decide +kernel)
theorem tellsSc3:Tells 47 #[.string ⟨#[97,93,32,62,32,59]⟩,.bool false] 1 0 (1:Nat) 97 ⟨#[]⟩ 0 0:=
 first_bare ⟨#[97,93,32,62,32,59]⟩ false 1 0 1 97 ⟨#[]⟩ 0 0 (small _ (by decide)) (by decide) (by decide) (by decide +kernel) (by decide +kernel) (by decide) (by decide) rfl (fun w=>bare_ok ⟨#[97,93,32,62,32,59]⟩ 97 1 w (small _ (by decide)) (by decide +kernel) (by decide) (by decide) (by decide) (by decide +kernel))
theorem tellsSc4:Tells 47 #[.string ⟨#[93,32,62,32,59]⟩,.bool false] 19 0 (1:Nat) 0 ⟨#[]⟩ 0 0:=
 first_sign ⟨#[93,32,62,32,59]⟩ false 9 (small _ (by decide)) (by decide) (by decide) (by decide +kernel) (by decide +kernel)
theorem tellsSc6:Tells 47 #[.string ⟨#[62,32,59]⟩,.bool false] 10 0 (1:Nat) 0 ⟨#[]⟩ 0 0:=
 first_sign ⟨#[62,32,59]⟩ false 0 (small _ (by decide)) (by decide) (by decide) (by decide +kernel) (by decide +kernel)
theorem tellsSc8:Tells 47 #[.string ⟨#[59]⟩,.bool false] 11 0 (1:Nat) 0 ⟨#[]⟩ 0 0:=
 first_sign ⟨#[59]⟩ false 1 (small _ (by decide)) (by decide) (by decide) (by decide +kernel) (by decide +kernel)
def toksSc:List Tok:=[⟨18,0,1,0,⟨#[]⟩,0⟩,⟨1,1,1,99,⟨#[]⟩,0⟩,⟨20,2,1,0,⟨#[]⟩,0⟩,⟨1,3,1,97,⟨#[]⟩,0⟩,⟨19,4,1,0,⟨#[]⟩,0⟩,⟨10,6,1,0,⟨#[]⟩,0⟩,⟨11,8,1,0,⟨#[]⟩,0⟩]
theorem runSc:Run Sc 0 true toksSc 0 0:=
 Run.step (q:=0) (l:=1) (by decide +kernel) (by decide) tellsSc0 (by decide) (by decide) (Run.step (q:=1) (l:=1) (by decide +kernel) (by decide) tellsSc1 (by decide) (by decide) (Run.step (q:=2) (l:=1) (by decide +kernel) (by decide) tellsSc2 (by decide) (by decide) (Run.step (q:=3) (l:=1) (by decide +kernel) (by decide) tellsSc3 (by decide) (by decide) (Run.step (q:=4) (l:=1) (by decide +kernel) (by decide) tellsSc4 (by decide) (by decide) (Run.step (q:=6) (l:=1) (by decide +kernel) (by decide) tellsSc6 (by decide) (by decide) (Run.step (q:=8) (l:=1) (by decide +kernel) (by decide) tellsSc8 (by decide) (by decide) (Run.fin (by decide +kernel))))))))
theorem goodSc:∀ t,t∈toksSc→GoodT t:=by
 intro t ht
 simp only [toksSc,List.mem_cons,List.not_mem_nil,or_false] at ht
 rcases ht with rfl | rfl | rfl | rfl | rfl | rfl | rfl <;> exact ⟨(fun e=>absurd e (by decide)),by decide⟩
def Sd:ByteArray:=⟨#[]⟩
def toksSd:List Tok:=[]
theorem runSd:Run Sd 0 true toksSd 0 0:=
 Run.fin (by decide +kernel)
theorem goodSd:∀ t,t∈toksSd→GoodT t:=by
 intro t ht
 simp [toksSd] at ht
abbrev ruleA:Ln:=⟨2,0,⟨#[]⟩,false,false,[],[.mk 1 97 ⟨#[]⟩ [] 0 0 false 0],[],[.mk 1 98 ⟨#[]⟩ [] 0 0 false 0],1⟩
theorem linesSa:linesT 7 4 toksSa = .ok [ruleA] []:=by rfl
theorem linesSb:linesT 9 5 toksSb = .no 4 50:=by rfl
theorem linesSc:linesT 9 7 toksSc = .no 1 51:=by rfl
theorem parseSa (w:World):Calls Tryz.prog 13 #[.string ⟨#[97,32,62,32,98,32,59]⟩] w fun x w'=>∃ v,x = .returned (.tuple #[v,.agg #[.int .i64 0,.int .i64 0]])∧RowsL w' w.heap.size v [ruleA]∧Below w.heap.size w w':=by
 refine (parse_run Sa toksSa 0 0 (by decide) runSa goodSa (by decide) w).mono ?_
 intro x w' h
 unfold PO at h
 rw [if_pos rfl] at h
 obtain ⟨h1,h2⟩:=h
 rw [show linesT (Sa.size:Int) toksSa.length toksSa = .ok [ruleA] [] from linesSa] at h2
 obtain ⟨v,e,h3⟩:=h2
 exact ⟨v,e,h3,h1⟩
theorem parseSb (w:World):Calls Tryz.prog 13 #[.string ⟨#[94,32,97,32,62,32,98,32,59]⟩] w fun x w'=>x = .returned (.tuple #[.slice none 0 0,.agg #[.int .i64 4,.int .i64 50]])∧Below w.heap.size w w':=by
 refine (parse_run Sb toksSb 0 0 (by decide) runSb goodSb (by decide) w).mono ?_
 intro x w' h
 unfold PO at h
 rw [if_pos rfl] at h
 obtain ⟨h1,h2⟩:=h
 rw [show linesT (Sb.size:Int) toksSb.length toksSb = .no 4 50 from linesSb] at h2
 exact ⟨h2,h1⟩
theorem parseSc (w:World):Calls Tryz.prog 13 #[.string ⟨#[91,99,45,97,93,32,62,32,59]⟩] w fun x w'=>x = .returned (.tuple #[.slice none 0 0,.agg #[.int .i64 1,.int .i64 51]])∧Below w.heap.size w w':=by
 refine (parse_run Sc toksSc 0 0 (by decide) runSc goodSc (by decide) w).mono ?_
 intro x w' h
 unfold PO at h
 rw [if_pos rfl] at h
 obtain ⟨h1,h2⟩:=h
 rw [show linesT (Sc.size:Int) toksSc.length toksSc = .no 1 51 from linesSc] at h2
 exact ⟨h2,h1⟩
theorem parseSd (w:World):Calls Tryz.prog 13 #[.string ⟨#[]⟩] w fun x w'=>∃ A c,x = .returned (.tuple #[.slice A 0 c,.agg #[.int .i64 0,.int .i64 0]])∧Below w.heap.size w w':=by
 refine (parse_run Sd toksSd 0 0 (by decide) runSd goodSd (by decide) w).mono ?_
 intro x w' h
 unfold PO at h
 rw [if_pos rfl] at h
 obtain ⟨h1,h2⟩:=h
 rw [show linesT (Sd.size:Int) toksSd.length toksSd = .ok [] [] from rfl] at h2
 obtain ⟨v,e,A,c,ms,rfl,h3⟩:=h2
 exact ⟨A,c,e,h1⟩
end Go.Proofs
namespace Go.Proofs
open Go.RowKit Go.Shelf
set_option maxRecDepth 100000
attribute [local go_sem] Oper.semAt_some
theorem cells_take {w:World} {g:Nat} {cur:Array Value} {T:TypeId} {n:Nat} {xs:List Value} (h:w.heap[g]? = some (.cells cur T (0,0))) (ht:cur.toList.take n=xs) (j:Nat) (u:Value) (hj:xs[j]? = some u):w.cell? ⟨g,j,none⟩=some u:=by
 rw [←ht,List.getElem?_take] at hj
 split at hj
 · simp only [World.cell?,h]
   simpa using hj
 · cases hj
theorem RowsL.one {w:World} {b:Nat} {v:Value} {l:Ln} (h:RowsL w b v [l]):∃ g c m,v = .slice (some ⟨g,0,none⟩) 1 c∧(∀ j u,(ml1 m)[j]? = some u→w.cell? ⟨g,j,none⟩=some u)∧LR 3 w b none m l∧g<w.heap.size:=by
 obtain ⟨A,c,ms,rfl,h2,h3⟩:=h
 rcases h3 with ⟨h3,-⟩ | ⟨g,cur,rfl,k1,k2,k3,-⟩
 · cases h3
 · cases ms with
   | nil=>exact h2.elim
   | cons m ms=>
    cases ms with
    | nil=>exact ⟨g,c,m,rfl,fun j u hj=>cells_take k2 k3 j u (by simpa [fl10] using hj),h2.1,(Array.getElem?_eq_some_iff.1 k2).1⟩
    | cons _ _=>exact h2.2.elim
theorem RowsS.one {d:Nat} {w:World} {b:Nat} {x:Option Nat} {s:SL} {i:It} (h:RowsS d w b x s [i]):∃ g c m,s=⟨some ⟨g,0,none⟩,1,c⟩∧(∀ j u,(mi1 m)[j]? = some u→w.cell? ⟨g,j,none⟩=some u)∧DR d w b x m i∧g<w.heap.size:=by
 obtain ⟨ms,h1,h2⟩:=h
 cases ms with
 | nil=>exact h2.elim
 | cons m ms=>
  cases ms with
  | cons _ _=>exact h2.2.elim
  | nil=>
   rcases h1.2 with ⟨_,h0,_⟩ | ⟨g,cur,e,_,_,k2,_,_,_,k6⟩
   · have:=h1.1;simp at this;omega
   · have hn:s.n=1:=h1.1
     obtain ⟨A,n,c⟩:=s
     simp only at e hn k6
     subst e hn
     exact ⟨g,c,m,rfl,fun j u hj=>cells_take k2 k6 j u (by simpa [fi] using hj),h2.1,(Array.getElem?_eq_some_iff.1 k2).1⟩
structure CF (w:World) (g g2 c2:Nat):Prop where
 a:w.cell? ⟨g,0,none⟩=some (.int .i64 2)
 b:w.cell? ⟨g,6,none⟩=some (.slice (some ⟨g2,0,none⟩) 1 c2)
 c:w.cell? ⟨g,9,none⟩=some (.int .i64 1)
 d:w.cell? ⟨g2,1,none⟩=some (.int .i64 97)
 lt:g<w.heap.size
 lt2:g2<w.heap.size
theorem CF.below {w w':World} {g g2 c2:Nat} (h:CF w g g2 c2) (hb:Below w.heap.size w w'):CF w' g g2 c2:=
 ⟨(hb.cell (p:=⟨g,0,none⟩) h.lt).trans h.a,(hb.cell (p:=⟨g,6,none⟩) h.lt).trans h.b,(hb.cell (p:=⟨g,9,none⟩) h.lt).trans h.c,(hb.cell (p:=⟨g2,1,none⟩) h.lt2).trans h.d,Nat.lt_of_lt_of_le h.lt hb.size,Nat.lt_of_lt_of_le h.lt2 hb.size⟩
theorem CF.alloc {w:World} {g g2 c2:Nat} (h:CF w g g2 c2) (o:Obj):CF (w.alloc o) g g2 c2:=h.below ((Below.refl _ _).alloc (Nat.le_refl _) _)
set_option maxHeartbeats 2000000 in
theorem shown_any (w:World):Calls Tryz.prog 12 #[] w fun e w'=>e = .returned (.bool true)∧Below w.heap.size w w':=by
 go_enter Tryz.func12,Tryz.ntmps12
 go_wp2_with fail
 refine (parseSa _).mono ?_
 rintro x w1 ⟨v1,rfl,hO1,hb1⟩
 obtain ⟨g,c,m,rfl,hm,hL,hg⟩:=hO1.one
 obtain ⟨⟨e1,e2,e3,e4,e5,e6⟩,-,hK,-,-⟩:=hL
 obtain ⟨g2,c2,m2,hs2,hm2,hD,hg2⟩:=hK.one
 have HL:Hid (CF w1 g g2 c2):=⟨hm 0 _ (by simp [ml1,e1]),hm 6 _ (by simp [ml1,hs2]),hm 9 _ (by simp [ml1,e6]),hm2 1 _ (by simp [mi1,hD.1.2.1]),hg,hg2⟩
 have HB:Hid (Below w.heap.size w w1):=hb1
 clear hO1 hb1 hm e1 e2 e3 e4 e5 e6 hK hs2 hm2 hD hg hg2
 go_wp2_with fail
 refine (parseSb _).mono ?_
 rintro x w2 ⟨rfl,hb2⟩
 have HL2:Hid (CF w2 g g2 c2∧FB w2 w1.heap.size 0 0):=⟨(HL.out.alloc _).below hb2,(FB.new w1 0 0).below hb2 (by simp)⟩
 have HB2:Hid (Below w.heap.size w w2):=(HB.out.alloc HB.out.size _).trans (hb2.mono (by have:=HB.out.size;simp;omega))
 clear HL HB hb2
 go_wp2_with fail
 refine (parseSc _).mono ?_
 rintro x w3 ⟨rfl,hb3⟩
 have HL3:Hid (CF w3 g g2 c2∧FB w3 w1.heap.size 0 0∧FB w3 w2.heap.size 4 50):=⟨(HL2.out.1.alloc _).below hb3,(HL2.out.2.allocs _).below hb3 (by have:=HL2.out.2.lt;simp;omega),(FB.new w2 4 50).below hb3 (by simp)⟩
 have HB3:Hid (Below w.heap.size w w3):=(HB2.out.alloc HB2.out.size _).trans (hb3.mono (by have:=HB2.out.size;simp;omega))
 clear HL2 HB2 hb3
 go_wp2_with fail
 refine (parseSd _).mono ?_
 rintro x w4 ⟨A4,c4,rfl,hb4⟩
 have HL4:Hid (CF w4 g g2 c2∧FB w4 w1.heap.size 0 0∧FB w4 w2.heap.size 4 50∧FB w4 w3.heap.size 1 51):=⟨(HL3.out.1.alloc _).below hb4,(HL3.out.2.1.allocs _).below hb4 (by have:=HL3.out.2.1.lt;simp;omega),(HL3.out.2.2.allocs _).below hb4 (by have:=HL3.out.2.2.lt;simp;omega),(FB.new w3 1 51).below hb4 (by simp)⟩
 have HB4:Hid (Below w.heap.size w w4):=(HB3.out.alloc HB3.out.size _).trans (hb4.mono (by have:=HB3.out.size;simp;omega))
 clear HL3 HB3 hb4
 go_wp2_with fail
 have hLB:LB ((w4.alloc (.cells #[.int .i64 0,.int .i64 0] 32)).alloc (.cells (ml1 L3).toArray 44)) (w4.heap.size+1) L3:=by
  have:=LB.new (w4.alloc (.cells #[.int .i64 0,.int .i64 0] 32)) L3
  rwa [World.size_alloc] at this
 refine (print3 (w4.heap.size+1) 1 _ hLB).mono ?_
 rintro x w5 ⟨rfl,hb5⟩
 rw [show thenT=⟨#[116,104,101,110,32,59,10]⟩ from rfl]
 have hC:=((HL4.out.1.alloc _).alloc _).below hb5
 have hF1:=((HL4.out.2.1.allocs _).allocs _).below hb5 (by have:=HL4.out.2.1.lt;simp;omega)
 have hF2:=((HL4.out.2.2.1.allocs _).allocs _).below hb5 (by have:=HL4.out.2.2.1.lt;simp;omega)
 have hF3:=((HL4.out.2.2.2.allocs _).allocs _).below hb5 (by have:=HL4.out.2.2.2.lt;simp;omega)
 have hF4:FB w5 w4.heap.size 0 0:=((FB.new w4 0 0).allocs _).below hb5 (by simp;omega)
 have HB5:Hid (Below w.heap.size w w5):=((HB4.out.alloc HB4.out.size _).alloc (by have:=HB4.out.size;simp;omega) _).trans (hb5.mono (by have:=HB4.out.size;simp;omega))
 obtain ⟨k0,k1,k2,k3,-,-⟩:=hC
 obtain ⟨f0,f1,-,-⟩:=hF1.cells
 obtain ⟨i0,i1,-,-⟩:=hF2.cells
 obtain ⟨j0,j1,-,-⟩:=hF3.cells
 obtain ⟨l0,l1,-,-⟩:=hF4.cells
 clear hLB hb5 hF1 hF2 hF3 hF4 HL4 HB4
 go_wp2
 go_ret
 exact ⟨rfl,HB5.out⟩
end Go.Proofs
