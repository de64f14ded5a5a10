import Derived.Test.YtdaafkmhfedkiaaGreatProg
import Derived.Test.YtdaafkmhfedkiaaGreatX0
namespace Go.Proofs.YtdaafkmhfedkiaaGreat
set_option maxHeartbeats 200000
open Go.RowKit Go.Proofs.Tryz
def Enters(f:FuncId):Prop:=∀(args:Array Value) (w:World),(callFunc f args).run prog w=.ok (.enter f args) w
theorem enters_of{f:FuncId}{fn:Func}(hf:prog.funcs[f]?=some fn)(b:(fn.name== "runtime.NumGoroutine")=false)(a:fn.body.isNone=false):Enters f:=by
 intro args w;have U:fn.name≠ "runtime.NumGoroutine" :=by simpa using b
 have L:¬fn.body=none:=by intro c;rw[c] at a;cases a
 simp[callFunc,hf,U,L]
theorem RU:Enters 156:=enters_of func156 qk qk
end Go.Proofs.YtdaafkmhfedkiaaGreat
