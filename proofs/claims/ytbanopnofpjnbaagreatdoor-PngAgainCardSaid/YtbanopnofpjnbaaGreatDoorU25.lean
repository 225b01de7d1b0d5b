/- Own texts in one: PxL. -/
import Derived.Test.YtbanopnofpjnbaaGreatDoorU00
set_option maxRecDepth 1000000
set_option linter.unusedVariables false
set_option maxHeartbeats 4000000
namespace Go.Proofs.YtbanopnofpjnbaaGreatDoor
open Go Go.RowKit Tryz
theorem wW(w:World)(a b:Int)(s:ByteArray):(binOp .eql 23 (.agg #[a,b,s]) (.agg #[a,b,s])).run prog w=.ok (.bool true) w:=by
 rw[run_eql_struct,show(10000:Nat)=9998+1+1 from rfl,run_equalIn_agg w _ _ _ _ (by kernel_rfl) (by kernel_rfl)];have hf:(prog.fieldsOf 23).toList=[⟨ "W",3,0,false, "", "",0⟩,⟨ "H",3,1,false, "", "",8⟩,⟨ "Pix",9,2,false, "", "",16⟩]:=by kernel_rfl
 rw[hf];simp[go_sem,Op.eqFields]
end Go.Proofs.YtbanopnofpjnbaaGreatDoor
