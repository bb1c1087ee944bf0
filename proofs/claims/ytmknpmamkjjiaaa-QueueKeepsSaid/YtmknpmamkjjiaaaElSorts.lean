import Derived.Test.YtmknpmamkjjiaaaEls
import Derived.Sort.Grow
set_option linter.unusedVariables false
namespace Go.Proofs.Ytmknpmamkjjiaaa
open Go.RowKit Plain
variable {α:Type} [Inhabited α] {L:El α}
theorem lS(z:Array Value)(m j:Nat)(hj:j<m)(hz:0<z.size):(madeCells z m).toList[j]? =z.toList[j%z.size]? :=by
 have hm:j%z.size<z.size:=Nat.mod_lt j hz;unfold madeCells;rw [bC,bC];simp [hj,hm]
theorem uh{α:Type}(L:El α)(z:α)(hzero:∀ P w,L.R P w L.zero.cells.toList z)(P:Nat ->Prop)(w:World)(n:Nat):Rows L P w (madeCells L.zero.cells (n*L.k)).toList (List.replicate n z):=by
 have hz:0<L.zero.cells.size:=by rw [L.gZ];exact L.pos
 refine ⟨by rw [Array.length_toList,size_madeCells,bA],fun j x hj=> ?_⟩;have hjn:j<n:=by
  have:=(aQ.1 hj).1
  rwa [bA] at this
 have hx:x=z:=by
  rw [List.getElem?_replicate,if_pos hjn] at hj;exact (bg hj).symm
 subst hx;have e:pt L.k (madeCells L.zero.cells (n*L.k)).toList j=L.zero.cells.toList:=by
  apply List.ext_getElem?
  intro i
  by_cases hi:i<L.k
  ·rw [iO _ _ _ hi]
   have hle:(j+1)*L.k<=n*L.k:=Nat.mul_le_mul_right L.k hjn;have hs:(j+1)*L.k=j*L.k+L.k:=Nat.succ_mul j L.k;rw [lS _ _ _ (by omega) hz,L.gZ,Nat.mul_add_mod_self_right,Nat.mod_eq_of_lt hi]
  ·rw [bq (by unfold pt;rw [bn];omega),bq (by rw [Array.length_toList,L.gZ];omega)]
 rw [e];exact hzero P w
theorem ko{α:Type}{w:World}{ops:Array Oper}{rest:List Oper}{o:Oper}{a:Act}{Q:Exit ->Act ->World ->Prop}(L:El α)(z:α)(hzero:∀ P w,L.R P w L.zero.cells.toList z)
  (hg:o.guard=none) (l:Operand) (ho:o.op=Op.makeSlice L.S l l) (n:Nat) (hl:a.eval l= .int .i64 n) (hn:n<=1000000)
  (h:∀ w',cB L w.heap.size w' (.slice (some ⟨w.heap.size,0,none⟩) n n) (List.replicate n z) ->Below w.heap.size w w' ->w'.heap.size=w.heap.size+1 ->wpList Try.prog ops Q rest (a.put o.dst (.slice (some ⟨w.heap.size,0,none⟩) n n)) w'):
  wpList Try.prog ops Q (o::rest) a w:=by
 obtain ⟨i0,hi,hz0,hz1,hz2⟩:=nO L;have hsm:=L.small;have hby:(i0.bytes:Int)*(n:Int)<=281474976710656:=by
  have h1:i0.bytes*n<=1024*1000000:=Nat.mul_le_mul (by rw [hz2];exact hsm) hn;have h2:((i0.bytes*n:Nat):Int)<=281474976710656:=by omega
  rwa [Int.natCast_mul] at h2
 have hrun:=run_make (P:=Try.prog) w L.S L.E i0 L.zero L.und hi hz0 .i64 .i64 n n (by omega) (Int.le_refl _) hby (by omega);simp only [Int.toNat_natCast,hz1] at hrun
 refine wpList_plain hg fun K hK'=> ?_
 unfold Oper.wp;simp [execOp,ho,hl,hrun,Result.andThen]
 refine hK' _ _ (h _ ?_ ((ak _ _).alloc (aj _) _) (by simp));have hr:=World.ownsRow_lit (base:=w.heap.size) (e:=L.E) (size:=L.k) w (madeCells L.zero.cells (n*L.k)) n (aj _) (by unfold maxLen;omega) (by rw [size_madeCells]);exact ⟨_,by rw [bA];exact hr,uh L z hzero _ _ n⟩
end Go.Proofs.Ytmknpmamkjjiaaa