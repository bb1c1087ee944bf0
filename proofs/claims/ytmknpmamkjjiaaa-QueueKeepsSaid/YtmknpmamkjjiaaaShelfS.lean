import Derived.Test.YtmknpmamkjjiaaaRefZs
import Derived.Sort.Grow
import Derived.Shelf.Slices.CompactS
set_option linter.unusedVariables false
namespace Go.Proofs.Ytmknpmamkjjiaaa
open Plain
theorem uR{xs:List bL}{k:Nat}(hk:k<xs.length):xs.take (k+1)=xs.take k++[xs.getD k []]:=by
 rw [List.take_succ_eq_append_getElem hk];simp [List.getD,ah hk]
theorem ny{a b:bL}(h:a<=b)(hne:a≠b):a<b:=by
 rcases Classical.em (a<b) with g|g
 ·exact g
 ·exact absurd (List.le_antisymm h (List.not_lt.1 g)) hne
theorem eO(zs:List bL)(m:Nat)(hm:m<zs.length):zs.toArray[m]! =zs.getD m []:=by
 simp [getElem!_pos,hm,List.getD]
theorem sorted_at{zs:List bL}(h:zs.Pairwise (· <= ·)){i j:Nat}(hij:i<j)(hj:j<zs.length):zs.getD i []<=zs.getD j []:=by
 have:=List.pairwise_iff_getElem.1 h i j (by omega) hj hij
 simpa [List.getD,ah hj,ah (show i<zs.length by omega)] using this
theorem gF{zs:List bL}(h:zs.Pairwise (· <= ·)):∀ m,m<=zs.length ->cK (Lib.compactUpTo zs.toArray m)/\∀ t,t∈Lib.compactUpTo zs.toArray m↔t∈zs.take m
 |0,_=>⟨List.Pairwise.nil,fun t=>by simp [Lib.compactUpTo]⟩
 |m+1,hm=>by
  obtain ⟨hr,hmem⟩:=gF h m (by omega);rw [Lib.compactUpTo_succ,uR (by omega)]
  by_cases hk:Lib.keeps zs.toArray m=true
  ·rw [if_pos hk,eO zs m (by omega)]
   refine ⟨List.pairwise_append.2 ⟨hr,by simp,fun t ht u hu=> ?_⟩,fun t=>by rw [List.mem_append,List.mem_append,hmem]⟩;rw [bf.1 hu];obtain ⟨j,hj,hjt⟩:=vJ ((hmem t).1 ht);have hjm:j<m:=by rw [bn] at hj;omega
   have e:(zs.take m).getD j []=zs.getD j []:=by simp [List.getD,hjm]
   rw [e] at hjt;subst hjt;have hk':¬ m=0 ->zs.getD m []≠zs.getD (m-1) []:=fun h0=>by
    unfold Lib.keeps at hk;rw [decide_eq_true_iff] at hk
    rcases hk with hk|hk
    ·exact absurd hk h0
    ·rw [eO zs m (by omega),eO zs (m-1) (by omega)] at hk
     exact hk
   have h1:=ny (sorted_at h (show m-1<m by omega) (by omega)) (fun e=>hk' (by omega) e.symm)
   by_cases e:j=m-1
   ·rw [e];exact h1
   ·have h2:=sorted_at h (show j<m-1 by omega) (by omega)
    by_cases e2:zs.getD j []=zs.getD (m-1) []
    ·rw [e2];exact h1
    ·exact lt_trans (ny h2 e2) h1
  ·rw [if_neg hk,List.append_nil]
   refine ⟨hr,fun t=> ?_⟩;rw [hmem,List.mem_append];refine ⟨.inl,fun g=>g.elim id fun g=> ?_⟩;rw [bf.1 g];have hk':m≠0/\zs.getD m []=zs.getD (m-1) []:=by
    unfold Lib.keeps at hk;rw [decide_eq_true_iff] at hk;refine ⟨fun e=>hk (.inl e),aY fun hne=>hk (.inr ?_)⟩
    by_cases e:m=0
    ·exact absurd (.inl e) hk
    ·rw [eO zs m (by omega),eO zs (m-1) (by omega)]
     exact hne
   rw [hk'.2];have:(zs.take m).getD (m-1) []=zs.getD (m-1) []:=by simp [List.getD,show m-1<m by omega]
   rw [<-this];exact pQ (by rw [bn];omega)
theorem lq{zs:List bL}(h:zs.Pairwise (· <= ·)):Lib.compact zs=once zs:=by
 obtain ⟨hr,hm⟩:=gF h zs.length (aj _);refine fP hr (cu zs) fun t=> ?_
 refine (hm t).trans ?_;rw [dN,List.take_length]
theorem l6(zs:List bL):(zs.mergeSort fun x y=>decide (x<=y)).Pairwise (· <= ·):=by
 have:=List.pairwise_mergeSort (le:=fun x y:bL=>decide (x<=y)) (fun a b c h g=>by
  rw [decide_eq_true_iff] at*;exact List.le_trans h g) (fun a b=>by
  rw [Bool.or_eq_true,decide_eq_true_iff,decide_eq_true_iff];exact List.le_total a b) zs
 exact this.imp fun h=>of_decide_eq_true h
theorem oH(zs:List bL):Lib.compact (zs.mergeSort fun x y=>decide (x<=y))=once zs:=by
 rw [lq (l6 zs)];exact pW fun t=>List.mem_mergeSort
open Go.RowKit
theorem nA(t:bL):encStr t=tv t:=rfl
theorem l7{B:Nat}{w:World}{g n cap:Nat}{xs:List bL}(h:bP B w (.slice (some ⟨g,0,none⟩) n cap) xs):Sort.Holds encStr w g 0 xs.toArray:=fun j hj=>by
 have hj':j<xs.length:=by simpa using hj
 refine ⟨?_,?_⟩
 ·rw [aC,h.cell j hj',eO xs j hj',nA]
 ·rw [aC];exact h.free j
theorem oI{w:World}{g off cap:Nat}{xs:List bL}(h:Sort.Holds encStr w g off xs.toArray)(hc:xs.length<=cap)(hm:cap<=maxLen):dx w (.slice (some ⟨g,off,none⟩) xs.length cap) xs:=by
 refine ⟨_,cap,rfl,hc,hm,(by simp),fun _=>⟨g,off,rfl,fun j hj=> ?_⟩⟩;have:=(h j (by simpa using hj)).1;rw [eO xs j hj,nA] at this;exact this
theorem jX{w:World}{g off:Nat}{xs ys:List bL}(h:Sort.Holds encStr w g off (xs++ys).toArray):Sort.Holds encStr w g off xs.toArray:=fun j hj=>by
 have hj':j<xs.length:=by simpa using hj
 have:=h j (by simp;omega);rw [eO (xs++ys) j (by simp;omega)] at this;rw [eO xs j hj'];rw [show (xs++ys).getD j []=xs.getD j [] by simp [List.getD,List.getElem?_append_left hj']] at this;exact this
theorem iJ{B:Nat}{w u:World}{g off:Nat}{d:Array bL}(hb:Below B w u)(hB:B<=u.heap.size)(hg:B<=g)(n:Nat)(os:Array Obj):Below B w (Sort.grow (Sort.putRow encStr (Sort.ahead u n) g off d) os):=by
 refine ⟨hb.os,hb.tape,hb.output,?_,fun k hk=> ?_⟩
 ·have:=hb.size
  rw [Sort.size_grow,Sort.size_putRow]
  show w.heap.size<=u.heap.size+os.size
  omega
 ·have hlt:k<u.heap.size:=by omega
  rw [Sort.heap_grow_old _ _ (by rw [Sort.size_putRow];exact hlt)];refine Eq.trans ?_ (hb.block k hk)
  show ((Sort.ahead u n).heap.modify g _)[k]? =u.heap[k]?
  rw [Array.getElem?_modify,if_neg (by omega)]
  rfl
theorem jG{u:World}{g off:Nat}{d0 d:Array bL}(h:Sort.Holds encStr u g off d0)(hs:d.size=d0.size)(hg:g<u.heap.size)(n:Nat)(os:Array Obj):Sort.Holds encStr (Sort.grow (Sort.putRow encStr (Sort.ahead u n) g off d) os) g off d:=
 Sort.holds_grow encStr _ os g off d (by rw [Sort.size_putRow];exact hg) (Sort.holds_putRow encStr _ g off d0 d (Sort.holds_ahead encStr u n g off d0 h) hs)
def oG(B:Nat)(w:World)(v:Value)(xs:List bL):Prop:=
 (v= .slice none 0 0/\xs=[])\/∃ g off c,v= .slice (some ⟨g,off,none⟩) xs.length c/\xs.length<=c/\c<=maxLen/\B<=g/\g<w.heap.size/\Sort.Holds encStr w g off xs.toArray
theorem oG.seq{B:Nat}{w:World}{v:Value}{xs:List bL}(h:oG B w v xs):dx w v xs:=by
 rcases h with ⟨rfl,rfl⟩|⟨g,off,c,rfl,h1,h2,-,-,h3⟩
 ·exact dx.nil w
 ·exact oI h3 h1 h2
theorem oG.mono{B C:Nat}{w:World}{v:Value}{xs:List bL}(h:oG B w v xs)(hc:C<=B):oG C w v xs:=by
 rcases h with h|⟨g,off,c,h0,h1,h2,h3,h4⟩
 ·exact .inl h
 ·exact .inr ⟨g,off,c,h0,h1,h2,by omega,h4⟩
def Ac(w:World)(xs:List bL)(e:Ending)(w':World):Prop:=∃ v,e= .returned v/\oG w.heap.size w' v xs/\Below w.heap.size w w'
end Go.Proofs.Ytmknpmamkjjiaaa