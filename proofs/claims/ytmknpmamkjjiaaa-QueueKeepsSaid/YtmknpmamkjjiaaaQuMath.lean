import Derived.Test.YtmknpmamkjjiaaaOrWait
set_option linter.unusedVariables false
namespace Go.Proofs.Ytmknpmamkjjiaaa.Plain
structure bM where
 most:Int
 list:List bK
def jE(v:Ints)(t:bK):Bool:=decide (1<=t.seq)&&decide (t.seq<=cO v t.node)
def dV(l:List bK)(v:Ints):List bK:=l.filter fun t=> !jE v t
def bS(q:bM)(v:Ints):bM:=⟨q.most,dV q.list v⟩
def nY(l:List bK):bK:=dW l (l.length-1)
def eT(l:List bK)(t:bK):Bool:=decide (l.length=0)||(decide (t.node=(nY l).node)&&decide (t.seq-1=(nY l).seq))
def fT(q:bM)(t:bK):Int:=if bN t=false then 2 else if eT q.list t=false then 9 else if q.most<=(q.list.length:Int) then 6 else 0
def fF(q:bM)(t:bK):bM:=if fT q t=0 then ⟨q.most,q.list++[t]⟩ else ⟨0,[]⟩
theorem mY(l:List bK)(v:Ints):(dV l v).length<=l.length:=List.length_filter_le _ _
theorem qj{l:List bK}{v:Ints}{t:bK}(h:t∈dV l v):t∈l:=(List.mem_filter.1 h).1
theorem kT{l:List bK}{v:Ints}{k:Nat}(hk:k<l.length):dV (l.take (k+1)) v=dV (l.take k) v++(if jE v (dW l k)=true then [] else [dW l k]):=by
 unfold dV;rw [List.take_succ_eq_append_getElem hk,List.filter_append,fq hk]
 congr 1
 cases h:jE v l[k]<;>simp [h]
theorem uE{q:bM}{t:bK}(h:bN t=false):fT q t=2/\fF q t=⟨0,[]⟩:=by
 have e:fT q t=2:=by unfold fT;rw [if_pos h]
 exact ⟨e,by unfold fF;rw [e];rfl⟩
theorem vZ{q:bM}{t:bK}(h:bN t=true)(h1:eT q.list t=false):fT q t=9/\fF q t=⟨0,[]⟩:=by
 have e:fT q t=9:=by unfold fT;rw [if_neg (by simp [h]),if_pos h1]
 exact ⟨e,by unfold fF;rw [e];rfl⟩
theorem uF{q:bM}{t:bK}(h:bN t=true)(h1:eT q.list t=true)(h2:q.most<=(q.list.length:Int)):fT q t=6/\fF q t=⟨0,[]⟩:=by
 have e:fT q t=6:=by unfold fT;rw [if_neg (by simp [h]),if_neg (by simp [h1]),if_pos h2]
 exact ⟨e,by unfold fF;rw [e];rfl⟩
theorem sZ{q:bM}{t:bK}(h:bN t=true)(h1:eT q.list t=true)(h2:¬ q.most<=(q.list.length:Int)):fT q t=0/\fF q t=⟨q.most,q.list++[t]⟩:=by
 have e:fT q t=0:=by unfold fT;rw [if_neg (by simp [h]),if_neg (by simp [h1]),if_neg h2]
 exact ⟨e,by unfold fF;rw [e];rfl⟩
theorem wh(t:bK):jE [] t=false:=by
 unfold jE;have e:cO [] t.node=0:=by unfold cO says;split<;>simp
 rw [e]
 by_cases h:1<=t.seq
 ·rw [decide_eq_false (show ¬ t.seq<=0 by omega),Bool.and_false]
 ·rw [decide_eq_false h,Bool.false_and]
theorem uG(l:List bK):dV l []=l:=by
 unfold dV;rw [List.filter_eq_self];intro t _;rw [wh]
 rfl
theorem kU(q:bM):bS q []=q:=by unfold bS;rw [uG]
theorem uH(v w:Ints)(t:bK):jE (join v w) t=(jE v t||jE w t):=by
 unfold jE;have e:cO (join v w) t.node=max (cO v t.node) (cO w t.node):=by
  unfold cO
  split
  ·exact uI v w _
  ·rfl
 rw [e]
 by_cases h:1<=t.seq
 ·simp only [decide_eq_true h,Bool.true_and]
  by_cases h1:t.seq<=cO v t.node
  ·rw [decide_eq_true h1,decide_eq_true (show t.seq<=max _ _ by omega),Bool.true_or]
  ·by_cases h2:t.seq<=cO w t.node
   ·rw [decide_eq_true h2,decide_eq_true (show t.seq<=max _ _ by omega),Bool.or_true]
   ·rw [decide_eq_false h1,decide_eq_false h2,decide_eq_false (show ¬ t.seq<=max _ _ by omega),Bool.or_false]
 ·simp only [decide_eq_false h,Bool.false_and,Bool.or_false]
theorem r9(q:bM)(v w:Ints):bS (bS q v) w=bS q (join v w):=by
 unfold bS dV;simp only [List.filter_filter,uH,Bool.not_or]
 congr 1
 exact List.filter_congr fun t _=>Bool.and_comm _ _
theorem qo(q:bM)(v w:Ints):bS (bS q w) v=bS (bS q v) w:=by
 unfold bS dV;simp only [List.filter_filter]
 congr 1
 exact List.filter_congr fun t _=>Bool.and_comm _ _
theorem ng{n:Nat}(h:n<=9223372036854775807):IntKind.i64.wrap (n:Int)=n:=by
 simp [IntKind.wrap,IntKind.bits,IntKind.signed]
 omega
structure fu(l:List bK):Prop where
 form:∀ t∈l,bN t=true
 node:∀ k,k<l.length ->(dW l k).node=(dW l 0).node
 seq:∀ k,k<l.length ->(dW l k).seq=(dW l 0).seq+k
theorem fu.nil:fu []:=⟨fun t h=>(by cases h),fun k h=>absurd h (Nat.not_lt_zero _),fun k h=>absurd h (Nat.not_lt_zero _)⟩
theorem j6{l:List bK}{t:bK}{k:Nat}(h:k<l.length):dW (l++[t]) k=dW l k:=by
 rw [fq (by simp;omega),fq h,List.getElem_append_left h]
theorem tq(l:List bK)(t:bK):dW (l++[t]) l.length=t:=by
 rw [fq (by simp)];simp
theorem uJ{l:List bK}{t:bK}(h:fu l)(hn:eT l t=true)(hl:0<l.length):t.node=(dW l 0).node/\t.seq=(dW l 0).seq+l.length:=by
 unfold eT at hn;rw [decide_eq_false (by omega),Bool.false_or,Bool.and_eq_true,decide_eq_true_iff,decide_eq_true_iff] at hn;unfold nY at hn;have e1:=h.node (l.length-1) (by omega);have e2:=h.seq (l.length-1) (by omega);exact ⟨hn.1.trans e1,by have:=hn.2;omega⟩
theorem fu.push{l:List bK}{t:bK}(h:fu l)(hf:bN t=true)(hn:eT l t=true):fu (l++[t]):=by
 have hl:(l++[t]).length=l.length+1:=by simp
 rcases Nat.eq_zero_or_pos l.length with e|e
 ·obtain rfl:=List.eq_nil_of_length_eq_zero e
  refine ⟨fun x hx=> ?_,fun k hk=> ?_,fun k hk=> ?_⟩
  ·rw [List.nil_append,List.mem_singleton] at hx
   rw [hx];exact hf
  ·obtain rfl:k=0:=by rw [hl] at hk;simp at hk;exact hk
   rfl
  ·obtain rfl:k=0:=by rw [hl] at hk;simp at hk;exact hk
   simp
 ·obtain ⟨n1,n2⟩:=uJ h hn e
  refine ⟨fun x hx=> ?_,fun k hk=> ?_,fun k hk=> ?_⟩
  ·rcases List.mem_append.1 hx with h1|h1
   ·exact h.form x h1
   ·rw [List.mem_singleton.1 h1];exact hf
  ·rw [j6 e]
   by_cases hk1:k<l.length
   ·rw [j6 hk1];exact h.node k hk1
   ·obtain rfl:k=l.length:=by omega
    rw [tq];exact n1
  ·rw [j6 e]
   by_cases hk1:k<l.length
   ·rw [j6 hk1];exact h.seq k hk1
   ·obtain rfl:k=l.length:=by omega
    rw [tq];exact n2
theorem fG{t:bK}(h:bN t=true):0<=t.node/\t.node<=7/\1<=t.seq/\t.seq<=1073741824:=by
 have:=(lW.1 h).1;unfold inRange at this;rw [decide_eq_true_iff] at this;exact this
theorem fu.heard{l:List bK}(h:fu l)(v:Ints)(n:Nat)(hn:n<=l.length)(hv:0<l.length ->cO v (dW l 0).node=(dW l 0).seq-1+n):dV l v=l.drop n:=by
 have hs:∀ k,k<l.length ->(jE v (dW l k)=true↔k<n):=fun k hk=>by
  have hf:=fG (h.form (dW l k) (by rw [fq hk];exact List.getElem_mem hk));have e1:=h.node k hk;have e2:=h.seq k hk;have e3:=hv (by omega);unfold jE;rw [Bool.and_eq_true,decide_eq_true_iff,decide_eq_true_iff,e1,e3];omega
 have hi:∀ k,k<=l.length ->dV (l.take k) v=(l.take k).drop n:=fun k=>by
  induction k with
  |zero=>intro _;simp [dV]
  |succ k ih=>
   intro hk;rw [kT (by omega),ih (by omega)];have hkl:k<l.length:=by omega
   by_cases hkn:k<n
   ·rw [if_pos ((hs k hkl).2 hkn),List.append_nil,List.drop_eq_nil_of_le (by rw [List.length_take];omega),List.drop_eq_nil_of_le (by rw [List.length_take];omega)]
   ·rw [if_neg (fun e=>hkn ((hs k hkl).1 e)),List.take_succ_eq_append_getElem hkl,List.drop_append_of_le_length (by rw [List.length_take];omega),fq hkl]
 have:=hi l.length (Nat.le_refl _)
 rwa [List.take_length] at this
theorem jo(l:List bK)(n k:Nat)(h:n+k<l.length):dW (l.drop n) k=dW l (n+k):=by
 rw [fq (by rw [List.length_drop];omega),fq h,List.getElem_drop]
theorem fu.drop{l:List bK}(h:fu l)(n:Nat):fu (l.drop n):=by
 refine ⟨fun t ht=>h.form t (List.mem_of_mem_drop ht),fun k hk=> ?_,fun k hk=> ?_⟩
 ·rw [List.length_drop] at hk
  rw [jo _ _ _ (by omega),jo _ _ _ (by omega),h.node (n+k) (by omega),h.node (n+0) (by omega)]
 ·rw [List.length_drop] at hk
  rw [jo _ _ _ (by omega),jo _ _ _ (by omega),h.seq (n+k) (by omega),h.seq (n+0) (by omega)];omega
end Go.Proofs.Ytmknpmamkjjiaaa.Plain