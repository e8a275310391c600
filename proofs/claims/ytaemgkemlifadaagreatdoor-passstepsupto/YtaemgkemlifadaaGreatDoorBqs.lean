/-
  A region that draws its order, whose callees may lay blocks of their own: walked once, at the class of worlds in which nothing that lay has turned.
-/
import Derived.Below
import Derived.Test.YtaemgkemlifadaaGreatDoorVas
namespace Go.Proofs
open Go.RowKit Go.Shelf
structure BelowOf (w:World) where
 world:World
 below:Below w.heap.size w world
instance (w:World):Inhabited (BelowOf w):=⟨⟨w,Below.refl _ w⟩⟩
theorem below_drew (w:World) (n:Nat):Below w.heap.size w (w.drewN n):=⟨rfl,rfl,rfl,Nat.le_refl _,fun _ _=>rfl⟩
theorem wp_region_quiet_below {P:Program} {id:Nat} {Q:Exit→Act→World→Prop} {a:Act} {w:World} {l:List Oper} (hm:P.follows .mixedOrders=true) (hB:Region.lexB .any l.toArray=true)
 (h:wpQuiet P l.toArray (fun w'=>∃ p:BelowOf w,w'=p.world) (fun a'=>∀ w',(∃ p:BelowOf w,w'=p.world)→Q .normal a' w') l a):(Code.region id l.toArray true).wp P Q a w:=
 wp_region_quiet (C:=fun w'=>∃ p:BelowOf w,w'=p.world) hm hB ⟨⟨w.drewN 1,below_drew w 1⟩,rfl⟩ (by simpa using h)
theorem below_of {P:Program} {f:FuncId} {args:Array Value} {w:World} {p:BelowOf w} {v:Value}
 (h:Calls P f args p.world fun e w'=>e = .returned v∧Below p.world.heap.size p.world w'):Calls P f args p.world fun e w''=>e = .returned v∧∃ q:BelowOf w,w''=q.world:=
 h.mono fun _ w' ⟨he,hb⟩=>⟨he,⟨w',p.below.trans (hb.mono p.below.size)⟩,rfl⟩
theorem below_same {P:Program} {f:FuncId} {args:Array Value} {w:World} {p:BelowOf w} {v:Value}
 (h:Calls P f args p.world fun e w'=>e = .returned v∧w'=p.world):Calls P f args p.world fun e w''=>e = .returned v∧∃ q:BelowOf w,w''=q.world:=
 h.mono fun _ _ ⟨he,hb⟩=>⟨he,p,hb⟩
end Go.Proofs
