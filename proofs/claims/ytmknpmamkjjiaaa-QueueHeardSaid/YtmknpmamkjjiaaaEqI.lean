import Derived.Test.YtmknpmamkjjiaaaItem
set_option linter.unusedVariables false
set_option maxRecDepth 100000
set_option maxHeartbeats 64000000
namespace Go.Proofs.Ytmknpmamkjjiaaa
open Go.Proofs.Try
open Go.RowKit Plain
theorem rH:prog.underlying 47=some (.struct (prog.fieldsOf 47)):=by kernel_rfl
theorem vH:prog.stoodInHeld 47=false:=by kernel_rfl
theorem xK(d e:bW):decide (d=e)=(decide (d.node=e.node)&&(decide (d.seq=e.seq)&&decide (d.pos=e.pos))):=by
 rw [Bool.eq_iff_iff,aO,aO,decide_eq_true_iff,decide_eq_true_iff,decide_eq_true_iff,decide_eq_true_iff];exact ⟨fun h=>by subst h;exact ⟨rfl,rfl,rfl⟩,fun ⟨h1,h2,h3⟩=>kI h1 h2 h3⟩
theorem yT(k:Nat)(d e:bW)(w:World):(Op.equalIn (k+2) 47 (.agg #[.int .i64 d.node,.int .i64 d.seq,.int .i64 d.pos]) (.agg #[.int .i64 e.node,.int .i64 e.seq,.int .i64 e.pos])).run prog w= .ok (decide (d=e)) w:=by
 rw [run_equalIn_agg w (k+1) _ _ _ rH vH,xK];simp [Program.fieldsOf,underlying47,underlying3,Try.isAgg3,Try.sizeOf3,Op.eqFields,go_sem]
 by_cases h1:d.node=e.node
 ·by_cases h2:d.seq=e.seq
  ·by_cases h3:d.pos=e.pos<;>simp [h1,h2,h3]
  ·simp [h1,h2]
 ·simp [h1]
end Go.Proofs.Ytmknpmamkjjiaaa