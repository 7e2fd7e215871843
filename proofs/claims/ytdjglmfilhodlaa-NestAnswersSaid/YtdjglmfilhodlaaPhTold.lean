/-
  What the statements' told does with a memory and the document's own; conditions: that the memories lie there, with the same bytes, and that the call is of its Go type.
-/
import Derived.Test.YtdjglmfilhodlaaPhRef
import Derived.Deep.RegionHeld3
namespace Go.Proofs.Ytdjglmfilhodlaa
open Go.RowKit
namespace Ph
/-- A goal that nobody looks into. -/
structure Sealed (p : Prop) : Prop where
  out : p
theorem seal_next {ops : Array Oper} {w : World} {Q : Act → Prop} {a : Act} {o : Oper} {rest : List Oper}
    (h : ∀ K : Act → Prop, (∀ a, Sealed (wpStill Try.prog ops w Q rest a) → K a) → if Region.wanted o (yielded ops a.tmps) then o.still Try.prog a w K else K (a.put o.dst undef)) : Sealed (wpStill Try.prog ops w Q (o :: rest) a) :=
  ⟨h _ (fun _ h => h.out)⟩
theorem seal_nil {ops : Array Oper} {w : World} {Q : Act → Prop} {a : Act} (h : Q a) : Sealed (wpStill Try.prog ops w Q [] a) := ⟨h⟩
theorem seal_all {id : Nat} {Q : Exit → Act → World → Prop} {a : Act} {w : World} {l : List Oper} {S : World → Prop} (hm : Try.prog.follows .mixedOrders = true) (hB : Region.lexB .any l.toArray = true) (hS : S w.drew)
    (h : ∀ w', S w' → Sealed (wpStill Try.prog l.toArray w' (fun a' => Q .normal a' w') l a)) : (Code.region id l.toArray true).wp Try.prog Q a w :=
  still_all hm hB hS (fun w' hw => (h w' hw).out)
theorem seal_tail {id : Nat} {Q : Exit → Act → World → Prop} {a : Act} {w : World} {l : List Oper} {S : World → Prop} (n : Nat) (hm : Try.prog.follows .mixedOrders = true) (hB : Region.lexTailB .any l.toArray n = true) (hS : S w.drew)
    (h : ∀ w', S w' → Sealed (wpStill Try.prog l.toArray w' (fun a' => wpList Try.prog l.toArray Q (l.drop n) a' w') (l.take n) a)) : (Code.region id l.toArray true).wp Try.prog Q a w :=
  still_tail n hm hB hS (fun w' hw => (h w' hw).out)
/-- Both memories lie there, with the same bytes, apart from each other. -/
structure Both (w : World) (m F n c r G : Nat) (z : Nat → Int) : Prop where
  mem : Mem w m F n c z
  ref : RMem w r G n z
  a1 : m ≠ G
  a2 : r ≠ F
  a3 : F ≠ G
  a4 : m ≠ r
theorem Both.kept {w w' : World} {m F n c r G : Nat} {z : Nat → Int} {S : List Nat} (h : Both w m F n c r G z) (ho : Only S w w') (h1 : m ∉ S) (h2 : F ∉ S) (h3 : r ∉ S) (h4 : G ∉ S) : Both w' m F n c r G z :=
  ⟨h.mem.kept ho h1 h2, h.ref.kept ho h3 h4, h.a1, h.a2, h.a3, h.a4⟩
/-- How told ends. -/
def ToldEnd (m F n c r G : Nat) (w : World) (e : Ending) (w' : World) : Prop := e = .returned (.bool true) ∧ (∃ z', Both w' m F n c r G z') ∧ Only [F, G] w w'
/-- A call's cells. -/
def callL (wh nn : Int) (ad : Nat) (vl : Int) (pb : Option Addr) (l cb : Nat) : Array Value := #[.int .i64 wh, .int .i64 nn, .int .u32 ad, .int .u32 vl, .slice pb l cb]
theorem Rd.kept {w w' : World} {pa : Option Addr} {n : Nat} {z : Nat → Int} (h : Rd w pa n z) (ho : Only [] w w') : Rd w' pa n z :=
  ⟨fun hn => by
    obtain ⟨b, off, e, hc⟩ := h.1 hn
    exact ⟨b, off, e, fun j hj => (ho.cell (World.block_lt_of_cell? w _ (hc j hj)) (by simp) _).trans (hc j hj)⟩, h.2⟩
end Ph
end Go.Proofs.Ytdjglmfilhodlaa
