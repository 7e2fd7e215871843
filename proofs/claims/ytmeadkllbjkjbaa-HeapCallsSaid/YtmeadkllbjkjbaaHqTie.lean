/-
  The program's heap is what the laws ask of one. Conditions: none.
-/
import Derived.Test.YtmeadkllbjkjbaaHqList
namespace Go.Proofs.Ytmeadkllbjkjbaa
open Go.RowKit
namespace Hq
open Ph (Only)

/-- The program's own heap. -/
noncomputable def theHeap : Hk where
  Hp := HpT
  kept := fun h ho hs => h.kept ho hs
  lt := fun h => h.lt
  fine := fun h => h.fine
  new := fun w => tNew w
  push := fun w p F l d k h _ hk => tPush w p F l d k h hk
  pop := fun w p F l h => tPop w p F l h
  min := fun w p F l h => tMin w p F l h
  rem := fun w p F l d h _ => tRemove w p F l d h
  chg := fun w p F l d k h _ hk => tChange w p F l d k h hk
  key := fun w p F l d h _ => tKey w p F l d h
  len := fun w p F l h => tLen w p F l h
  list := fun w p F l h => tList w p F l h
end Hq
end Go.Proofs.Ytmeadkllbjkjbaa
