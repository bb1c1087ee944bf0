import Derived.Test.YtmknpmamkjjiaaaTxFrmA
import Derived.Test.YtmknpmamkjjiaaaTxFrmB
set_option linter.unusedVariables false
set_option maxRecDepth 100000
set_option maxHeartbeats 64000000
namespace Go.Proofs.Ytmknpmamkjjiaaa
open Go.RowKit Plain
structure iy(t:bK):Prop where
 deps:t.deps.length<=1000
 dh:t.dh.length<=1000
 drops:∀ e∈t.dh,e.drops.length<=1000
 ok:jU t
theorem dU.slices{w:World}{v:Value}{t:bK}(h:dU w v t):∃ da dn dc ea en ec,v= .agg #[.int .i64 t.node,.int .i64 t.seq,.slice da dn dc,.slice ea en ec]/\bJ fD w (.slice da dn dc) t.deps/\bJ d9 w (.slice ea en ec) t.dh:=by
 obtain ⟨dv,ev,rfl,h1,h2⟩:=h;obtain ⟨a1,c1,rfl,-,-,-,k1⟩:=h1.parts;obtain ⟨a2,c2,rfl,-,-,-,k2⟩:=h2.parts;exact ⟨_,_,_,_,_,_,rfl,k1,k2⟩
theorem jr{t:bK}(h:inRange t.node t.seq=false):bN t=false:=by unfold bN;rw [h];rfl
theorem uN{v:Value}{t:bK}{w:World}(h:dU w v t)(ht:iy t)(r:Bool)(hr:bN t=r):Calls Try.prog 16 #[v] w (bH w r):=by
 obtain ⟨l1,l2,l3,-⟩:=ht;obtain ⟨da,dn,dc,ea,en,ec,rfl,k1,k2⟩:=h.slices;have hen:=k2.gy;have g1:en<=9223372036854775807:=by omega
 have hz:=@Below.trans w.heap.size w (w.alloc (.cells #[.int .i64 t.node,.int .i64 t.seq,.slice da dn dc,.slice ea en ec] 34));have hba:=zB w (.cells #[.int .i64 t.node,.int .i64 t.seq,.slice da dn dc,.slice ea en ec] 34);have hto:∀ W,Below (w.alloc (.cells #[.int .i64 t.node,.int .i64 t.seq,.slice da dn dc,.slice ea en ec] 34)).heap.size (w.alloc (.cells #[.int .i64 t.node,.int .i64 t.seq,.slice da dn dc,.slice ea en ec] 34)) W ->Below w.heap.size w W:=fun W hb=>hba.trans (hb.mono hba.size)
 have KD:=fun W hb=>qI (jw (k1.below (hto W hb))) (by omega)
 have KA:=fun W hb=>(gG (jw (k1.below (hto W hb))) t.node).mono (R':=fun e w'=>e= .returned (.int .i64 (cO t.deps t.node))/\Below W.heap.size W w') fun e w' ⟨he,hw⟩=>⟨he,hw▸ak _ _⟩
 have KR:=fun W hb=>rA t.node t.seq (k2.below (hto W hb)) (by omega) (fun e he=>by have:=l3 e he;omega)
 have KH:=fun W hb=>rE t.node t.seq (k2.below (hto W hb)) (jw (k1.below (hto W hb))) (fun e he=>by have:=l3 e he;omega)
 have ed:=wR t;subst hr
 by_cases h1:0<=t.node
 rotate_left
 ·rw [jr (aA (by omega))];exact oJ h1 g1
 by_cases h2:t.node<8
 rotate_left
 ·rw [jr (aA (by omega))];exact oK h1 h2 g1
 by_cases h3:1<=t.seq
 rotate_left
 ·rw [jr (aA (by omega))];exact oL h1 h2 h3 g1
 by_cases h4:t.seq<=1073741824
 rotate_left
 ·rw [jr (aA (by omega))];exact oM h1 h2 h3 h4 g1
 have hI:inRange t.node t.seq=true:=aB (by omega);have h6:IntKind.i64.wrap (t.seq-1)=t.seq-1:=by simp [IntKind.wrap,IntKind.bits,IntKind.signed];omega
 cases h5:iL t.deps with
 |false=>
  have e:bN t=false:=by unfold bN;rw [ed,h5,hI];rfl
  rw [e];exact oN h1 h2 h3 h4 (fun W hb=>h5▸KD W hb) g1
 |true=>
  have Ae:∀ W,Below (w.alloc (.cells #[.int .i64 t.node,.int .i64 t.seq,.slice da dn dc,.slice ea en ec] 34)).heap.size (w.alloc (.cells #[.int .i64 t.node,.int .i64 t.seq,.slice da dn dc,.slice ea en ec] 34)) W ->Calls Try.prog 23 #[.slice da dn dc] W (bH W true):=fun W hb=>h5▸KD W hb
  by_cases vg:cO t.deps t.node=t.seq-1
  rotate_left
  ·have e:bN t=false:=by unfold bN;rw [ed,h5,hI,aA vg];rfl
   rw [e];exact oO h1 h2 h3 h4 Ae (cO t.deps t.node) (t.seq-1) h6 (by simp [vg]) KA g1
  have q6:(cO t.deps t.node==t.seq-1)=true:=by simp [vg]
  by_cases h7:(en:Int)<=8
  rotate_left
  ·have e:bN t=false:=by unfold bN;rw [ed,h5,hI,aB vg,aA (show ¬ t.dh.length<=8 by omega)];rfl
   rw [e];exact oP h1 h2 h3 h4 h7 Ae (cO t.deps t.node) (t.seq-1) h6 q6 KA g1
  have q7:decide (t.dh.length<=8)=true:=aB (by omega)
  cases h8:iR t.node t.seq t.dh with
  |false=>
   have e:bN t=false:=by unfold bN;rw [ed,h5,hI,aB vg,q7,h8];rfl
   rw [e];exact oQ h1 h2 h3 h4 h7 Ae (cO t.deps t.node) (t.seq-1) h6 q6 KA (fun W hb=>h8▸KR W hb) g1
  |true=>
   have Cc:∀ W,Below (w.alloc (.cells #[.int .i64 t.node,.int .i64 t.seq,.slice da dn dc,.slice ea en ec] 34)).heap.size (w.alloc (.cells #[.int .i64 t.node,.int .i64 t.seq,.slice da dn dc,.slice ea en ec] 34)) W ->Calls Try.prog 24 #[.int .i64 t.node,.int .i64 t.seq,.slice ea en ec] W (bH W true):=fun W hb=>h8▸KR W hb
   cases h9:gJ t.dh t.node t.seq t.deps with
   |false=>
    have e:bN t=false:=by unfold bN;rw [ed,h5,hI,aB vg,q7,h8,h9];rfl
    rw [e];exact oU h1 h2 h3 h4 h7 Ae (cO t.deps t.node) (t.seq-1) h6 q6 KA Cc (fun W hb=>h9▸KH W hb) g1
   |true=>
    have e:bN t=true:=by unfold bN;rw [ed,h5,hI,aB vg,q7,h8,h9];rfl
    rw [e];exact l9 h1 h2 h3 h4 h7 Ae (cO t.deps t.node) (t.seq-1) h6 q6 KA Cc (fun W hb=>h9▸KH W hb) g1
end Go.Proofs.Ytmknpmamkjjiaaa