/- A region that draws its order, whose operations only read, and whose callees at most make new memory: one walk, in the order of the text. The class of worlds: those in which nothing old has turned. No program is named here. -/
import Derived.Test.YtneepapppbchnaaMem
import Derived.Deep.QuietTactic
import Derived.Deep.RegionWith
import Derived.BigQuiet
namespace Go.Proofs.Ytneepapppbchnaa
open Go.RowKit
set_option linter.unusedVariables false

structure BelowW (W : World) where
  w : World
  h : Below W.heap.size W w
theorem BelowW.ne (W : World) : Nonempty (BelowW W) := ⟨⟨W, Below.refl _ _⟩⟩
theorem BelowW.cell {W : World} {a : Addr} {v : Value} (h : W.cell? a = some v) (x : BelowW W) : x.w.cell? a = some v := (x.h.cell (World.block_lt_of_cell? W a h)).trans h

section
variable {P : Program}
theorem wp_region_calm {id : Nat} {Q : Exit → Act → World → Prop} {a : Act} {w : World} {l : List Oper} (hm : P.follows .mixedOrders = true) (hB : Region.lexB .any l.toArray = true)
    (h : wpQuiet P l.toArray (fun w' => ∃ x : BelowW w, w' = x.w) (fun a' => ∀ w', (∃ x : BelowW w, w' = x.w) → Q .normal a' w') l a) : (Code.region id l.toArray true).wp P Q a w :=
  wp_region_quiet (C := fun w' => ∃ x : BelowW w, w' = x.w) hm hB ⟨⟨_, ((Below.refl _ w).drew)⟩, rfl⟩ (by simpa using h)

theorem calm_of {f : FuncId} {args : Array Value} {w : World} {v : Value} (x : BelowW w)
    (h : Calls P f args x.w fun e w' => e = .returned v ∧ Below x.w.heap.size x.w w') : Calls P f args x.w fun e w'' => e = .returned v ∧ ∃ y : BelowW w, w'' = y.w :=
  h.mono fun _ w' ⟨he, hb⟩ => ⟨he, ⟨w', x.h.trans (hb.mono x.h.size)⟩, rfl⟩
theorem calm_of_same {f : FuncId} {args : Array Value} {w : World} {v : Value} (x : BelowW w)
    (h : Calls P f args x.w fun e w' => e = .returned v ∧ w' = x.w) : Calls P f args x.w fun e w'' => e = .returned v ∧ ∃ y : BelowW w, w'' = y.w :=
  h.mono fun _ w' ⟨he, hb⟩ => ⟨he, x, hb⟩
end
end Go.Proofs.Ytneepapppbchnaa
