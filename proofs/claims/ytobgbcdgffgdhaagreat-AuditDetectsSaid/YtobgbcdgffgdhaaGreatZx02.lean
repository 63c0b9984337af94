/- Part 2 of 34: WrapR. -/
import Derived.Test.YtobgbcdgffgdhaaGreatZx00
import Derived.Laws.Rows
namespace Go.Proofs.YtobgbcdgffgdhaaGreat
set_option linter.unusedVariables false
set_option linter.unusedSimpArgs false
set_option maxRecDepth 100000
set_option maxHeartbeats 8000000
section
open Go
section
variable {P:Program} {ops:Array Oper} {rest:List Oper} {o:Oper} {a:Act} {w:World} {Q:Exit->Act->World->Prop}
theorem Kl (ty:TypeId)(g:Nat){cs:Array Value}{d:TypeDesc}{x:Operand}(hg:w.heap[g]?=some (.cells cs ty (0,0)))(hu:P.underlying ty=some d)(hi:(P.info? ty).map (·.size)=some cs.size)
  (h:wpList P ops Q rest (a.put o.dst (.agg cs)) w) (DD:o.guard=none:=by exact rfl) (ho:o.op= .load ty x:=by exact rfl) (hx:a.eval x= .pointer (some ⟨g,0,none⟩):=by exact rfl)
  (hd:(match d with | .struct _ | .array _ _=>true | _=>false)=true:=by exact rfl) :wpList P ops Q (o::rest) a w:=wpList_load_row DD ty x ho g hx ty cs (0,0) d hg hu hd hi h
theorem Up (g:Nat)(cells:Array Value)(t:TypeId){old:Array Value}{ty:TypeId}{x y:Operand}(hg:w.heap[g]?=some (.cells old t (0,0)))(hi:(P.info? ty).map (·.size)=some cells.size)(h1:cells.all (·.oneCell')=true)
  (h:wpList P ops Q rest (a.put o.dst undef) (w.setRow g cells)) (DD:o.guard=none:=by exact rfl) (ho:o.op= .store ty x y:=by exact rfl) (hx:a.eval x= .pointer (some ⟨g,0,none⟩):=by exact rfl) (hy:a.eval y= .agg cells:=by exact rfl)
  (hold:old.size=cells.size:=by exact rfl) :wpList P ops Q (o::rest) a w:=wpList_store_row DD ty x y ho g cells hx hy t old hg hi hold h1 h
end
end
end Go.Proofs.YtobgbcdgffgdhaaGreat
