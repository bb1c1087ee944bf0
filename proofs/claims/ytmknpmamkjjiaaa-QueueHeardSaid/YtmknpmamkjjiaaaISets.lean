import Derived.Test.YtmknpmamkjjiaaaItem
import Derived.Test.YtmknpmamkjjiaaaElGs
import Derived.DeepKeys5
import Derived.Shelf.Abstract
import Derived.Deep.Cut
import Derived.Lib.SliceRun
set_option linter.unusedVariables false
set_option maxRecDepth 100000
set_option maxHeartbeats 64000000
namespace Go.Proofs.Ytmknpmamkjjiaaa
open Go.Proofs.Try
open Go.RowKit Plain Go.Maps
set_option maxRecDepth 100000
def kd(d:bW):Lit:=(DataW.agg [.lit (.int .i64 d.node),.lit (.int .i64 d.seq),.lit (.int .i64 d.pos)]:DataW Unit).asKey
def yG(w:World)(b:Nat)(ds:List bW):Prop:=∃ (D:DataW Unit) (n:Nat),n<=ds.length/\w.ownsMap prog 47 unitElem b n D/\∀ d,sP d ->Maps.has D (kd d)=vM ds d
theorem yG.lt{w:World}{b:Nat}{ds:List bW}(h:yG w b ds):b<w.heap.size:=by
 obtain ⟨D,n,-,ho,-⟩:=h;exact ho.lt
theorem mem_def{α:Type}[Inhabited α]{xs:List α}{j:Nat}(hj:j<xs.length):xs.getD j default∈xs:=List.mem_of_getElem? (getD_at hj)
theorem xL(x:bI):zy x= .agg #[.string (bt x.key),.string (bt x.field),.int .i64 x.kind,.string (bt x.elem),.int .i64 x.n,.int .i64 x.dot.node,.int .i64 x.dot.seq,.int .i64 x.dot.pos]:=rfl
theorem rO{u:Value}{xs:List bI}{w:World}{row:Option Nat}(hu:Old dQ row w.heap.size w u xs)(hn:xs.length<=1000000)(f:Nat ->Bool)(I:Nat ->World ->Prop)(g:Nat)(lb:Array Value)
  (eg:∀ args w,(callFunc g args).run prog w= .ok (.enter g args) w) (hrow:∀ j,row=some j ->j<w.heap.size)
  (hI:∀ k W W',I k W ->Below w.heap.size W W' ->I k W')
  (hp:∀ k W,k<xs.length ->I k W ->w.grownBy W row ->Calls prog g (#[zy (xs.getD k default)]++lb) W fun e W'=>e= .returned (.bool (f k))/\I (k+1) W'/\W.grownBy W' row)
  (h0:I 0 w):
  Calls prog 55 #[u,.func (.func g) #[] lb] w fun e w'=>∃ v,e= .returned v/\cB dQ w.heap.size w' v (dF f xs xs.length)/\w.grownBy w' row/\I xs.length w':=by
 have hu':=hu;obtain ⟨a,cap,-,rfl,-⟩:=hu';have HS:=zH hu;have HI:=zH hI;have HP:=zH hp;have HR:=zH hrow;have H0:=zH h0;obtain ⟨n,hN⟩:∃ n,xs.length=n:=⟨_,rfl⟩;rw [hN] at hn ⊢;have LN:=zH hN;clear hu hI hp hrow h0 hN;go_enter func55,ntmps55
 go_wp2_with fail
 go_loopw [5,10] (fun o i wr=>∃ k:Nat,k<=n/\i= .int .i64 k/\cB dQ w.heap.size wr o (dF f xs k)/\w.grownBy wr row/\I k wr) (fun _ i _=>n-(intOf i).toNat)
 case atStart=>exact ⟨0,aJ _,rfl,cB.nil _ _,World.grownBy.refl _ _,H0.o⟩
 case round=>
  obtain ⟨k,hk,rfl,ho,hb,hi⟩:=hrel;have HO:=zH ho;have HB:=zH hb;have HK:=zH hi;have PL:=jC f xs k;clear ho hb hi
  by_cases hlt:k<n
  ·have hkx:=zH (show k<xs.length by rw [LN.o];exact hlt)
   obtain ⟨b,o,c,hv,-,-,-,hc⟩:=iQ ((HS.o.kept HB.o).seq HB.o.size) (by rw [LN.o];omega);rw [LN.o] at hv;simp only [aG] at hv
   obtain ⟨rfl,-,rfl⟩:=hv;obtain ⟨c0,c1,c2,c3,c4,c5,c6,c7⟩:=hc k hkx.o;have PK:=zH (fun W=>HP.o k W hkx.o);have S1:=zH (fun (W:World)=>vN W (xs.getD k default));have PY:=zH (fun h=>mF (f:=f) (xs:=xs) (k:=k) h);have PN:=zH (fun h=>pq (f:=f) (xs:=xs) (k:=k) h);clear hc;generalize xs.getD k default=x at*;have B1:=zH ((ak w.heap.size wr).alloc HB.o.size (.cells #[.string (bt x.key),.string (bt x.field),.int .i64 x.kind,.string (bt x.elem),.int .i64 x.n,.int .i64 x.dot.node,.int .i64 x.dot.seq,.int .i64 x.dot.pos] 77));have BG:=zH (ig HB.o B1.o);have K:=PK.o _ (HI.o _ _ _ HK.o B1.o) BG.o;have O1:=zH (HO.o.alloc (.cells #[.string (bt x.key),.string (bt x.field),.int .i64 x.kind,.string (bt x.elem),.int .i64 x.n,.int .i64 x.dot.node,.int .i64 x.dot.seq,.int .i64 x.dot.pos] 77));have IB:Hid (dK (wr.alloc (.cells #[.string (bt x.key),.string (bt x.field),.int .i64 x.kind,.string (bt x.elem),.int .i64 x.n,.int .i64 x.dot.node,.int .i64 x.dot.seq,.int .i64 x.dot.pos] 77)) wr.heap.size 0 x):=zH ⟨by simp,by simp,by simp,by simp,by simp,by simp,by simp,by simp⟩;have hsz:w.heap.size<=wr.heap.size:=HB.o.size;have HZ:=zH hsz;clear hsz PK;rw [xL] at K;go_upto_region 5 with fail
   clear c0 c1 c2 c3 c4 c5 c6 c7;generalize (wr.alloc _)=wb at*;obtain ⟨c0,c1,c2,c3,c4,c5,c6,c7⟩:=IB.o;simp only [aC] at c1 c2 c3 c4 c5 c6 c7
   cases hf:f k with
   |true=>
    rw [hf] at K;have HY:=zH (PY.o hf);clear hf PY PN;have CS:Hid (∀ W,wb.grownBy W row ->dK W wr.heap.size 0 x):=zH (fun W hg=>⟨hg.cell IB.o.c0 (fun e=>by have:=HR.o _ e.symm;have:=HZ.o;simp at*;omega),hg.cell IB.o.c1 (fun e=>by have:=HR.o _ e.symm;have:=HZ.o;simp at*;omega),hg.cell IB.o.c2 (fun e=>by have:=HR.o _ e.symm;have:=HZ.o;simp at*;omega),hg.cell IB.o.c3 (fun e=>by have:=HR.o _ e.symm;have:=HZ.o;simp at*;omega),hg.cell IB.o.c4 (fun e=>by have:=HR.o _ e.symm;have:=HZ.o;simp at*;omega),hg.cell IB.o.c5 (fun e=>by have:=HR.o _ e.symm;have:=HZ.o;simp at*;omega),hg.cell IB.o.c6 (fun e=>by have:=HR.o _ e.symm;have:=HZ.o;simp at*;omega),hg.cell IB.o.c7 (fun e=>by have:=HR.o _ e.symm;have:=HZ.o;simp at*;omega)⟩);have HG2:Hid (∀ W,wb.grownBy W row ->w.grownBy W row):=zH (fun W hg=>jO BG.o hg (fun j hj=> .inl hj));have CU:Hid (∀ W,wb.grownBy W row ->cB dQ w.heap.size W u5 (dF f xs k)):=zH (fun W hg=>O1.o.kept mK hg HR.o);go_wp2_with (first
     |(go_at_fn g;refine K.mono ?_;rintro e w1 ⟨rfl,hi,hg⟩;have I1:=zH hi;have G1:=zH hg;obtain ⟨c0,c1,c2,c3,c4,c5,c6,c7⟩:=CS.o _ hg;simp only [aC] at c1 c2 c3 c4 c5 c6 c7;have G2:=zH (HG2.o _ hg);have O2:=zH (CU.o _ hg);clear hi hg)
     |(at_builtin;refine eU dQ rfl (.tmp 17) (.tmp 19) rfl w.heap.size rfl (O2.o.alloc _) rfl (S1.o _) (fun _ _ h=>h) (by simp;omega) (by have:=G2.o.size;simp;omega) ?_))
    intro v' w2 ho' hgr _;have O3:=zH ho';rw [<-HY.o] at O3;have BL:=zH (((ak w.heap.size w1).alloc G2.o.size _).grown hgr (by have:=G2.o.size;simp;omega) (fun j hj=>(O2.o.lt j hj).1));have I3:=zH (HI.o _ _ _ I1.o BL.o);have G3:=zH (ig G2.o BL.o);clear ho' hgr;go_wp2_with fail
    go_roundw
    case rel=>exact ⟨k+1,by omega,by go_num,O3.o,G3.o,I3.o⟩
    case measure=>simp [intOf];omega
   |false=>
    rw [hf] at K;have HY:=zH (PN.o hf);clear hf PY PN;go_wp2_with (go_at_fn g;refine K.mono ?_;rintro e w1 ⟨rfl,hi,hg⟩)
    have I1:=zH hi;have O2:=zH (O1.o.kept mK hg HR.o);rw [<-HY.o] at O2;have G2:=zH (jO BG.o hg (fun j hj=> .inl hj));clear hi hg K c0 c1 c2 c3 c4 c5 c6 c7;go_wp2_with fail
    go_roundw
    case rel=>exact ⟨k+1,by omega,by go_num,O2.o,G2.o,I1.o⟩
    case measure=>simp [intOf];omega
  ·obtain rfl:k=n:=by omega
   go_wp2_with fail
   go_ret
   exact ⟨_,rfl,HO.o,HB.o,HK.o⟩
theorem xE(xs:List Int)(n g:Nat)(w:World)(hn:xs.length=n)(hp:n<=1000)(hc:∀ j,j<n ->w.cell? ⟨g,j,none⟩=some (.int .i64 (xs.getD j 0))):
  Calls prog 74 #[.slice (some ⟨g,0,none⟩) n n] w fun e w'=>e= .returned (.int .i64 (dH xs))/\w'=w:=by
 have hit:∀ (l:List Int) (k:Nat),k<l.length ->(∀ j,j<k ->l.getD j 0=0) ->l.getD k 0≠0 ->dH l=l.getD k 0:=by
  intro l
  induction l with
  |nil=>intro k h;simp at h
  |cons c l ih=>
   intro k hk ha hh
   cases k with
   |zero=>simp only [List.getD_cons_zero] at hh ⊢;rw [dH,if_neg hh]
   |succ k=>
    have h0:=ha 0 (by omega);simp only [List.getD_cons_zero] at h0
    simp only [List.getD_cons_succ] at hh ⊢
    rw [dH,if_pos h0];exact ih k (by simpa using hk) (fun j hj=>by have:=ha (j+1) (by omega);simpa using this) hh
 have none:∀ l:List Int,(∀ j,j<l.length ->l.getD j 0=0) ->dH l=0:=by
  intro l
  induction l with
  |nil=>intro _;rfl
  |cons c l ih=>
   intro ha;have h0:=ha 0 (by simp);simp only [List.getD_cons_zero] at h0
   rw [dH,if_pos h0];exact ih fun j hj=>by have:=ha (j+1) (by simpa using hj);simpa using this
 have HH:=zH (hit xs);have HN:=zH (none xs);have HC:=zH hc;rw [hn] at HH HN;clear hit none hc hn;generalize dH xs=r at*;obtain ⟨f,hf⟩:∃ f:Nat ->Int,(fun j=>xs.getD j 0)=f:=⟨_,rfl⟩;have HF:=zH (fun j=>congrFun hf j);clear hf;go_enter func74,ntmps74
 go_wp2_with fail
 go_loop [8] (fun i=>∃ k:Nat,k<=n/\i= .int .i64 k/\∀ j,j<k ->xs.getD j 0=0) (fun i=>n-(intOf i).toNat)
 case atStart=>exact ⟨0,aJ _,rfl,fun j hj=>absurd hj (by omega)⟩
 case round=>
  obtain ⟨k,hk,rfl,hall⟩:=hrel;have HA:=zH hall;clear hall
  by_cases hlt:k<n
  ·have c0:=HC.o k hlt
   have hnx:=zH (HH.o k hlt HA.o);have hz:Hid (xs.getD k 0=0 ->∀ j,j<k+1 ->xs.getD j 0=0):=zH (fun e j hj=>by
    by_cases e2:j=k
    ·rw [e2];exact e
    ·exact HA.o j (by omega))
   generalize xs.getD k 0=c at*
   by_cases hc0:c=0
   ·have HX:=zH (hz.o hc0)
    subst hc0;go_wp2_with fail
    go_round
    case rel=>exact ⟨k+1,by omega,by go_num,HX.o⟩
    case measure=>simp [intOf];omega
   ·obtain rfl:r=c:=hnx.o hc0
    go_wp2_with fail
    go_ret
    exact ⟨rfl,rfl⟩
  ·obtain rfl:k=n:=by omega
   obtain rfl:r=0:=HN.o HA.o;go_wp2_with fail
   go_ret
   exact ⟨rfl,rfl⟩
end Go.Proofs.Ytmknpmamkjjiaaa