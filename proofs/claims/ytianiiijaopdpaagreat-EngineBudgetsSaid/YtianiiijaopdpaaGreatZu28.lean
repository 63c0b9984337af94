/- Part 28 of 58: L16SameV. -/
import Derived.Test.YtianiiijaopdpaaGreatZu00
import Derived.Test.YtianiiijaopdpaaGreatZu25
import Derived.Deep.LoopGhost
namespace Go.Proofs.YtianiiijaopdpaaGreat
set_option linter.unusedVariables false
set_option linter.unusedSimpArgs false
set_option maxRecDepth 100000
set_option maxHeartbeats 8000000
section
open Go Go.RowKit Go.Deep
theorem zY {C:World→Prop}{Qa:Act→Prop}{ops:Array Oper}{rest:List Oper}{a:Act}{dst:Option Tmp}{yt ty:TypeId}{x y:Operand}{pos:String}{after:Array Edge}{guard:Option (Nat × Bool)}(p q:Yd)(r:Bool)(hw:Region.wanted { dst,op:= .binOp .neq 63 x y yt,type:=ty,pos,after,guard} (yielded ops a.tmps)=true)(hx:a.eval x= .agg (Zd p))(hy:a.eval y= .agg (Zd q))(hr:(!decide (p=q))=r)
  (h:wpQuiet Tryz.prog ops C Qa rest (a.put dst (.bool r))) :wpQuiet Tryz.prog ops C Qa ({ dst,op:= .binOp .neq 63 x y yt,type:=ty,pos,after,guard}::rest) a:=
 GU (.bool r) hw (fun w=>pA hx hy hr) h
end
end Go.Proofs.YtianiiijaopdpaaGreat
