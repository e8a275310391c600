/-
  What the pieces of a rule's result may be: image 67; lone 101; speakers 102.
-/
import Derived.Test.YtcfcjljapamcoaaGreatDoorMpdx
import Derived.Test.YtcfcjljapamcoaaGreatDoorMgax
namespace Go.Proofs
open Go.RowKit Go.Shelf
set_option maxRecDepth 100000
attribute [local go_sem] Oper.semAt_some
def imgP (key:List (List (Int × Int))) (p:Pc):List (Int × Int):=if p.k=1 then [(p.u,p.u)] else if p.k=2 then keyAt key p.y else p.tl
def img (r:Rl):List (List (Int × Int)):=r.res.map (imgP r.key)
theorem lone_any (v:Value) (l:List (Int × Int)) (w:World) (hT:Tab w) (h:Rs w v l):Calls Tryz.prog 101 #[v] w fun e w'=>e = .returned (.bool (decide (lenU l=1)))∧Grown w w':=by
 have HC:Hid (∀ W,Grown w W→Calls Tryz.prog 141 #[v] W fun e w'=>e = .returned (.int .i64 (lenU l))∧Grown W w'):=fun W hg=>len_any v l W (hT.grown hg) (h.grown hg)
 obtain ⟨n,hn⟩:∃ n,lenU l=n:=⟨_,rfl⟩
 rw [hn] at HC ⊢
 obtain ⟨a,m,c,rfl⟩:=h.sl
 clear hn h hT
 go_enter Tryz.func101,Tryz.ntmps101
 go_wp2_with fail
 refine (HC.out _ (Grown.refl _)).mono ?_
 rintro e w1 ⟨rfl,hg⟩
 have HG:Hid (Grown w w1):=hg
 clear hg
 by_cases h1:n=1
 · have d1:(n == 1)=true:=by simpa using h1
   go_wp2
   go_ret
   exact ⟨by simp [h1],HG.out⟩
 · have d1:(n == 1)=false:=by simpa using h1
   go_wp2
   go_ret
   exact ⟨by simp [h1],HG.out⟩
theorem one_new (W:World) (u:Int):Rs ((W.alloc (.cells #[.int .i64 u,.int .i64 u] 67)).alloc (.cells #[.slice (some ⟨W.heap.size,0,none⟩) 1 1] 40)) (.slice (some ⟨W.heap.size,0,none⟩) 1 1) [(u,u)]:=by
 have hb:((W.alloc (.cells #[.int .i64 u,.int .i64 u] 67)).alloc (.cells #[.slice (some ⟨W.heap.size,0,none⟩) 1 1] 40)).heap[W.heap.size]? = some (.cells #[.int .i64 u,.int .i64 u] 67 (0,0)):=
  (Below.heap_alloc _ _ _ (by simp)).trans (World.alloc_heap_new _ _)
 refine ⟨_,1,rfl,Nat.le_refl _,.inr ⟨_,_,rfl,fun j hj => ?_⟩⟩
 obtain rfl:j=0:=by simpa using hj
 exact ⟨by rw [cell_of hb];rfl,by rw [cell_of hb];rfl⟩
theorem img_succ (r:Rl) {k:Nat} (hk:k<r.res.length):(img r).take (k+1)=(img r).take k++[imgP r.key r.res[k]]:=by
 unfold img
 rw [List.take_succ_eq_append_getElem (by simpa using hk)]
 simp
theorem rs_lt {w:World} {g o n c:Nat} {l:List (Int × Int)} (h:Rs w (.slice (some ⟨g,o,none⟩) n c) l) (hn:n≠0):g<w.heap.size:=by
 obtain ⟨a,cap,e,_,h3⟩:=h
 injection e with e1 e2 e3
 rcases h3 with h3 | ⟨g2,o2,e4,hr⟩
 · rw [h3] at e2;exact absurd e2 hn
 · rw [e4] at e1
   injection e1 with e5
   injection e5 with e6
   subst e6
   exact hr.lt (fun e=>hn (by rw [e2,e];rfl))
end Go.Proofs
