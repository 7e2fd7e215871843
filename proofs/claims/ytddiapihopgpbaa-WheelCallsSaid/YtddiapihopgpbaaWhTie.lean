/-
  The program's wheel is what the laws ask of one. Conditions: none.
-/
import Derived.Test.YtddiapihopgpbaaWhAdv
namespace Go.Proofs.Ytddiapihopgpbaa
open Go.RowKit Go.Maps
namespace Wh
open Ph (Only)

/-- The program's own wheel. -/
noncomputable def theWheel : Wk where
  Wh := WhT
  kept := fun h ho hs => h.kept ho hs
  lt := fun h => h.lt
  fine := fun h => h.fine
  new_yes := fun t w ht => tNew_yes t w ht
  new_no := fun t w ht => tNew_no t w ht
  add := fun w p F t l d a h hd ha => tAdd w p F t l d a h hd ha
  can := fun w p F t l d h hd => tCancel w p F t l d h hd
  adv := fun w p F t l a h ha => tAdv w p F t l a h ha
  next := fun w p F t l h => tNext w p F t l h
  now := fun w p F t l h => tNow w p F t l h
  len := fun w p F t l h => tLen w p F t l h
  at_ := fun w p F t l d h hd => tAt w p F t l d h hd
end Wh
end Go.Proofs.Ytddiapihopgpbaa
