namespace Go.Proofs.Ytmknpmamkjjiaaa.Plain
abbrev Ints:=List Int
def says(v:Ints)(i:Nat):Int:=max (v.getD i 0) 0
theorem wU(v:Ints)(i:Nat):0<=says v i:=by unfold says;omega
theorem qN(v:Ints)(i:Nat)(h:v.length<=i):v.getD i 0=0:=by simp [List.getD,List.getElem?_eq_none h]
theorem lD(v:Ints)(i:Nat)(h:v.length<=i):says v i=0:=by unfold says;rw [qN v i h];omega
def cO(v:Ints)(n:Int):Int:=if 0<=n then says v n.toNat else 0
theorem iK(v:Ints)(i:Nat):cO v (i:Int)=says v i:=by unfold cO;rw [if_pos (by omega)];rfl
def laid(c:Nat ->Int):Nat ->Ints
 |0=>[]
 |n+1=>if c n=0 then laid c n else (List.range (n+1)).map c
theorem sK(c:Nat ->Int)(n i:Nat):((List.range n).map c).getD i 0=if i<n then c i else 0:=by
 by_cases h:i<n
 ·simp [List.getD,h]
 ·rw [if_neg h,qN _ _ (by simp;omega)]
theorem lF(c:Nat ->Int):∀ n,(laid c n).length<=n
 |0=>Nat.le_refl _
 |n+1=>by
  have:=lF c n;unfold laid
  split
  ·omega
  ·simp
theorem nC(c:Nat ->Int):∀ n i,(laid c n).getD i 0=if i<n then c i else 0
 |0,i=>by simp [laid]
 |n+1,i=>by
  unfold laid
  split
  ·rename_i h
   rw [nC c n i]
   by_cases g:i<n
   ·rw [if_pos g,if_pos (by omega)]
   ·rw [if_neg g]
    by_cases e:i=n
    ·subst e;rw [if_pos (by omega),h]
    ·rw [if_neg (by omega)]
  ·exact sK c (n+1) i
theorem lG(c:Nat ->Int):∀ n,laid c n=(List.range (laid c n).length).map c
 |0=>rfl
 |n+1=>by
  have ih:=lG c n;unfold laid
  split
  ·exact ih
  ·simp
theorem uT(c:Nat ->Int)(n:Nat)(h:c n=0):laid c (n+1)=laid c n:=by rw [laid,if_pos h]
theorem uU(c:Nat ->Int)(n:Nat)(h:¬ c n=0):laid c (n+1)=(List.range (n+1)).map c:=by rw [laid,if_neg h]
theorem mq(c:Nat ->Int)(n:Nat)(h:¬ c n=0):(laid c (n+1)).length=n+1:=by rw [uU c n h];simp
theorem uV{c:Nat ->Int}{n:Nat}(h:∀ i,0<=c i)(i:Nat):says (laid c n) i=if i<n then c i else 0:=by
 have:=h i;unfold says;rw [nC]
 split<;>omega
def trim(v:Ints):Ints:=laid (says v) v.length
def join(a b:Ints):Ints:=laid (fun i=>max (says a i) (says b i)) (max a.length b.length)
theorem wV(a b:Ints)(i:Nat):0<=max (says a i) (says b i):=by have:=wU a i;omega
theorem uI(a b:Ints)(i:Nat):says (join a b) i=max (says a i) (says b i):=by
 unfold join;rw [uV (wV a b)]
 split
 ·rfl
 ·rw [lD a i (by omega),lD b i (by omega)];rfl
def dP(c:Nat ->Int)(m k:Nat):Ints:=(List.range m).map fun i=>if i<k then c i else 0
theorem nD(c:Nat ->Int)(m k:Nat):(dP c m k).length=m:=by simp [dP]
theorem lH(c:Nat ->Int)(m:Nat):dP c m 0=List.replicate m 0:=by
 refine List.ext_getElem (by simp [dP]) fun i h1 h2=> ?_
 simp [dP]
theorem lI(c:Nat ->Int)(m k:Nat):(dP c m k).set k (c k)=dP c m (k+1):=by
 refine List.ext_getElem (by simp [dP]) fun i h1 h2=> ?_
 simp only [dP,List.getElem_set,List.getElem_map,List.getElem_range]
 by_cases e:k=i
 ·subst e;simp
 ·rw [if_neg e]
  by_cases g:i<k
  ·rw [if_pos g,if_pos (by omega)]
  ·rw [if_neg g,if_neg (by omega)]
theorem uW(c:Nat ->Int)(m:Nat):dP c m m=(List.range m).map c:=by
 refine List.ext_getElem (by simp [dP]) fun i h1 h2=> ?_
 simp only [dP,List.getElem_map,List.getElem_range]
 rw [if_pos (by simpa [dP] using h1)]
theorem lJ(c:Nat ->Int)(n:Nat):dP c (laid c n).length (laid c n).length=laid c n:=by
 rw [uW];exact (lG c n).symm
theorem uX(c:Nat ->Int)(n k:Nat)(h:laid c (k+1)=laid c n)(h0:c k=0):laid c k=laid c n:=by rw [<-h,uT c k h0]
theorem uY(c:Nat ->Int)(n k:Nat)(h:laid c (k+1)=laid c n)(h0:¬ c k=0):(laid c n).length=k+1:=by rw [<-h,mq c k h0]
end Go.Proofs.Ytmknpmamkjjiaaa.Plain