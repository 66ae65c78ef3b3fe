/- One walk for a region that draws its order, whose operations read what is old and whose callees make new memory alone: a class of worlds in which all that was there is kept. -/
import Derived.Test.YtgmpbalibdlhdaaQVMem
import Derived.Deep.QuietTactic
import Derived.BigQuiet
set_option linter.unusedSimpArgs false
set_option linter.unusedVariables false
namespace Go.Proofs.Ytgmpbalibdlhdaa
open Go.RowKit
/-- A world in which all of w is kept. -/
structure KW (w : World) where
  W : World
  k : Kept w W
instance (w : World) : Nonempty (KW w) := ⟨⟨w, Kept.refl w⟩⟩
theorem KW.cells {w : World} {a : Addr} {v : Value} (h : w.cell? a = some v) : ∀ x : KW w, x.W.cell? a = some v := fun x => x.k.cell h
theorem KW.call {P : Program} {w : World} {f : FuncId} {args : Array Value} {v : Value} {x : KW w} (h : ∀ W, Kept w W → Calls P f args W fun e w' => e = .returned v ∧ Kept W w') : Calls P f args x.W fun e w'' => e = .returned v ∧ ∃ y : KW w, w'' = y.W :=
  (h x.W x.k).mono fun _ w' h => ⟨h.1, ⟨w', x.k.trans h.2⟩, rfl⟩
theorem region_kept {P : Program} {id : Nat} {Q : Exit → Act → World → Prop} {a : Act} {w : World} {l : List Oper} (hm : P.follows .mixedOrders = true) (hB : Region.lexB .any l.toArray = true)
    (h : wpQuiet P l.toArray (fun W => ∃ x : KW w, W = x.W) (fun a' => ∀ w', (∃ x : KW w, w' = x.W) → Q .normal a' w') l a) : (Code.region id l.toArray true).wp P Q a w :=
  wp_region_quiet hm hB ⟨⟨_, (Kept.refl w).drew⟩, rfl⟩ h
end Go.Proofs.Ytgmpbalibdlhdaa
