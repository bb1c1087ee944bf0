import Derived.Test.YtmknpmamkjjiaaaTWords
import Derived.Deep.LoopGhost
set_option linter.unusedVariables false
namespace Go.Proofs.Ytmknpmamkjjiaaa
open Go.RowKit Plain
theorem z8(a:UInt8):a.toNat<256:=UInt8.toNat_lt a
theorem Aa{c:UInt8}(h:c.toNat=47\/(48<=c.toNat/\c.toNat<=57)\/(97<=c.toNat/\c.toNat<=122)):eD c=true:=by
 unfold eD;simp only [Bool.or_eq_true,aO,beq_iff_eq,decide_eq_true_eq,UInt8.le_iff_toNat_le]
 rcases h with h|h|h
 ·exact .inl (.inl (UInt8.toNat_inj.1 h))
 ·exact .inl (.inr h)
 ·exact .inr h
theorem zh{c:UInt8}(h:¬ (c.toNat=47\/(48<=c.toNat/\c.toNat<=57)\/(97<=c.toNat/\c.toNat<=122))):eD c=false:=by
 cases e:eD c with
 |false=>rfl
 |true=>
  exfalso
  apply h
  unfold eD at e;simp only [Bool.or_eq_true,aO,beq_iff_eq,decide_eq_true_eq,UInt8.le_iff_toNat_le] at e
  rcases e with (e|e)|e
  ·subst e;exact .inl rfl
  ·exact .inr (.inl e)
  ·exact .inr (.inr e)
theorem qB{s:bL}(hl:s.length<=16)(h:∀ k,k<s.length ->eD (s.getD k 0)=true):bZ s=true:=by
 unfold bZ;rw [aO,aZ];refine ⟨fun c hc=> ?_,aB hl⟩;obtain ⟨k,hk,rfl⟩:=aX hc;have:=h k hk
 simpa [List.getD,ah hk] using this
theorem oC{s:bL}(k:Nat)(hk:k<s.length)(h:eD (s.getD k 0)=false):bZ s=false:=by
 cases e:bZ s with
 |false=>rfl
 |true=>
  unfold bZ at e;rw [aO,aZ] at e;have:=e.1 _ (aS hk);simp [List.getD,ah hk,this] at h
theorem qC{s:bL}(hl:¬ s.length<=16):bZ s=false:=by unfold bZ;rw [aA hl,Bool.and_false]
def Ab(xs:List bL):Prop:=∀ t∈xs,t.length<=1000000
theorem Ab.at{xs:List bL}(h:Ab xs)(k:Nat)(hk:k<xs.length):(xs.getD k []).length<=1000000:=by
 have:=h _ (aS hk)
 simpa [List.getD,ah hk] using this
theorem pQ{xs:List bL}{k:Nat}(hk:k<xs.length):xs.getD k []∈xs:=by
 have e:xs.getD k []=xs[k]:=by simp [List.getD,ah hk]
 rw [e];exact aS hk
theorem vJ{l:List bL}{t:bL}(h:t∈l):∃ j,j<l.length/\l.getD j []=t:=by
 obtain ⟨j,hj,rfl⟩:=aX h;exact ⟨j,hj,by simp [List.getD,ah hj]⟩
end Go.Proofs.Ytmknpmamkjjiaaa