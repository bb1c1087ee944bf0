import Derived.Test.YtfgcodcablpdcaaGreatEls
import Derived.Lib.OwnKind
import Derived.Deep.Cut
import Derived.Deep.RegionLaw
set_option linter.unusedVariables false
namespace Go.Proofs.YtfgcodcablpdcaaGreat.Plain
open Go.Proofs.Tryz
abbrev Ints:=List Int
def says(v:Ints)(i:Nat):Int:=max (v.getD i 0) 0
theorem lC(v:Ints)(i:Nat):0<=says v i:=by unfold says;omega
theorem wC(v:Ints)(i:Nat)(h:v.length<=i):v.getD i 0=0:=by simp [List.getD,List.getElem?_eq_none h]
theorem su(v:Ints)(i:Nat)(h:v.length<=i):says v i=0:=by unfold says;rw [wC v i h];omega
def iF(v:Ints)(n:Int):Int:=if 0<=n then says v n.toNat else 0
theorem lg(v:Ints)(i:Nat):iF v (i:Int)=says v i:=by unfold iF;rw [if_pos (by omega)];rfl
theorem Zg(v:Ints)(n:Int):0<=iF v n:=by unfold iF;split;exact lC _ _;omega
def laid(c:Nat ->Int):Nat ->Ints
 |0=>[]
 |n+1=>if c n=0 then laid c n else (List.range (n+1)).map c
theorem Jo(c:Nat ->Int)(n i:Nat):((List.range n).map c).getD i 0=if i<n then c i else 0:=by
 by_cases h:i<n
 ·simp [List.getD,h]
 ·rw [if_neg h,wC _ _ (by simp;omega)]
theorem qg(c:Nat ->Int):∀ n,(laid c n).length<=n
 |0=>ah _
 |n+1=>by
  have:=qg c n;unfold laid
  split
  ·omega
  ·simp
theorem Ai(c:Nat ->Int):∀ n i,(laid c n).getD i 0=if i<n then c i else 0
 |0,i=>by simp [laid]
 |n+1,i=>by
  unfold laid
  split
  ·rename_i h
   rw [Ai c n i]
   by_cases g:i<n
   ·rw [if_pos g,if_pos (by omega)]
   ·rw [if_neg g]
    by_cases e:i=n
    ·subst e;rw [if_pos (by omega),h]
    ·rw [if_neg (by omega)]
  ·exact Jo c (n+1) i
theorem LX(c:Nat ->Int):∀ n k,(laid c n).length=k+1 ->(laid c n).getD k 0≠0
 |0,k=>by simp [laid]
 |n+1,k=>by
  unfold laid
  split
  ·exact LX c n k
  ·rename_i h
   intro g;simp at g
   subst g;rw [Jo,if_pos (by omega)];exact h
theorem Jp(c:Nat ->Int):∀ n,laid c n=(List.range (laid c n).length).map c
 |0=>rfl
 |n+1=>by
  have ih:=Jp c n;unfold laid
  split
  ·exact ih
  ·simp
theorem Zh(c:Nat ->Int)(n:Nat)(h:c n=0):laid c (n+1)=laid c n:=by rw [laid,if_pos h]
theorem Zi(c:Nat ->Int)(n:Nat)(h:¬ c n=0):laid c (n+1)=(List.range (n+1)).map c:=by rw [laid,if_neg h]
theorem J9(c:Nat ->Int)(n:Nat)(h:¬ c n=0):(laid c (n+1)).length=n+1:=by rw [Zi c n h];simp
def Short(v:Ints):Prop:=(∀ i,0<=v.getD i 0)/\∀ k,v.length=k+1 ->v.getD k 0≠0
theorem xG{c:Nat ->Int}{n:Nat}(h:∀ i,i<n ->0<=c i):Short (laid c n):=
 ⟨fun i=>by rw [Ai];split;exact h _ (by assumption);omega,LX c n⟩
theorem Short.says{v:Ints}(h:Short v)(i:Nat):v.getD i 0=says v i:=by have:=h.1 i;unfold Plain.says;omega
theorem pz{u v:Ints}(hu:Short u)(hv:Short v)(h:∀ i,says u i=says v i):u=v:=by
 have hg:∀ i,u.getD i 0=v.getD i 0:=fun i=>by rw [hu.says,hv.says,h]
 have hl:u.length=v.length:=by
  rcases Nat.lt_trichotomy u.length v.length with g|g|g
  ·exfalso
   refine hv.2 (v.length-1) (by omega) ?_;rw [<-hg,wC _ _ (by omega)]
  ·exact g
  ·exfalso
   refine hu.2 (u.length-1) (by omega) ?_;rw [hg,wC _ _ (by omega)]
 refine bT hl fun i h1 h2=> ?_
 have:=hg i
 simpa [List.getD,List.getElem?_eq_getElem h1,List.getElem?_eq_getElem h2] using this
theorem Aj{c:Nat ->Int}{n:Nat}(h:∀ i,0<=c i)(i:Nat):says (laid c n) i=if i<n then c i else 0:=by
 have:=h i;unfold says;rw [Ai]
 split<;>omega
def trim(v:Ints):Ints:=laid (says v) v.length
def join(a b:Ints):Ints:=laid (fun i=>max (says a i) (says b i)) (max a.length b.length)
def meet(a b:Ints):Ints:=laid (fun i=>min (says a i) (says b i)) (min a.length b.length)
def uP(v:Ints)(k:Nat)(n:Int)(i:Nat):Int:=if i=k then n else says v i
def CQ(v:Ints)(k:Nat)(n:Int):Ints:=laid (uP v k n) (max v.length (k+1))
theorem RP(a b:Ints)(i:Nat):0<=max (says a i) (says b i):=by have:=lC a i;omega
theorem RU(a b:Ints)(i:Nat):0<=min (says a i) (says b i):=by have:=lC a i;have:=lC b i;omega
theorem Ma(v:Ints)(k:Nat)(n:Int)(hn:0<=n)(i:Nat):0<=uP v k n i:=by unfold uP;split;exact hn;exact lC v i
theorem oO(v:Ints):Short (trim v):=xG fun i _=>lC v i
theorem oP(a b:Ints):Short (join a b):=xG fun i _=>RP a b i
theorem Us(a b:Ints):Short (meet a b):=xG fun i _=>RU a b i
theorem Vw(v:Ints)(k:Nat)(n:Int)(hn:0<=n):Short (CQ v k n):=xG fun i _=>Ma v k n hn i
theorem qD(v:Ints)(i:Nat):says (trim v) i=says v i:=by
 unfold trim;rw [Aj (lC v)]
 split
 ·rfl
 ·rw [su v i (by omega)]
theorem lU(a b:Ints)(i:Nat):says (join a b) i=max (says a i) (says b i):=by
 unfold join;rw [Aj (RP a b)]
 split
 ·rfl
 ·rw [su a i (by omega),su b i (by omega)];rfl
theorem Dw(a b:Ints)(i:Nat):says (meet a b) i=min (says a i) (says b i):=by
 unfold meet;rw [Aj (RU a b)]
 split
 ·rfl
 ·have:=lC a i
  have:=lC b i
  by_cases g:a.length<=i
  ·rw [su a i g];omega
  ·rw [su b i (by omega)];omega
theorem Zj(v:Ints)(k:Nat)(n:Int)(hn:0<=n)(i:Nat):says (CQ v k n) i=uP v k n i:=by
 unfold CQ;rw [Aj (Ma v k n hn)]
 split
 ·rfl
 ·unfold uP
  rw [if_neg (by omega),su v i (by omega)]
theorem trim_len(v:Ints):(trim v).length<=v.length:=qg _ _
theorem P9(a b:Ints):(join a b).length<=max a.length b.length:=qg _ _
theorem Hq(a b:Ints):(meet a b).length<=min a.length b.length:=qg _ _
def Within(a b:Ints):Prop:=∀ i,says a i<=says b i
theorem vF{a b:Ints}(h:∀ i,i<a.length ->says a i<=says b i):Within a b:=fun i=>by
 by_cases g:i<a.length
 ·exact h i g
 ·rw [su a i (by omega)];exact lC b i
def within(a b:Ints):Bool:=(List.range a.length).all fun i=>decide (says a i<=says b i)
theorem within_iff{a b:Ints}:within a b=true↔Within a b:=by
 unfold within;rw [aR]
 constructor
 ·intro h
  refine vF fun i hi=> ?_
  have:=h i (List.mem_range.2 hi);exact bR this
 ·intro h i _
  exact aI (h i)
theorem RV{a b:Ints}(h:Within a b):within a b=true:=within_iff.2 h
theorem Oe{a b:Ints}(h:¬ Within a b):within a b=false:=by
 cases e:within a b with
 |false=>rfl
 |true=>exact absurd (within_iff.1 e) h
theorem TQ(a b:Ints):Within a (join a b)/\Within b (join a b):=⟨fun i=>by rw [lU];omega,fun i=>by rw [lU];omega⟩
theorem TT(a b:Ints):Within (meet a b) a/\Within (meet a b) b:=⟨fun i=>by rw [Dw];omega,fun i=>by rw [Dw];omega⟩
theorem TS(a b c:Ints):Within (join a b) c↔Within a c/\Within b c:=
 ⟨fun h=>⟨fun i=>by have:=h i;rw [lU] at this;omega,fun i=>by have:=h i;rw [lU] at this;omega⟩,
  fun ⟨h,g⟩ i=>by have:=h i;have:=g i;rw [lU];omega⟩
def nD(c:Nat ->Int)(m k:Nat):Ints:=(List.range m).map fun i=>if i<k then c i else 0
theorem Mc(c:Nat ->Int)(m k:Nat):(nD c m k).length=m:=by simp [nD]
theorem Jq(c:Nat ->Int)(m:Nat):nD c m 0=List.replicate m 0:=by
 refine bT (by simp [nD]) fun i h1 h2=> ?_
 simp [nD]
theorem Jr(c:Nat ->Int)(m k:Nat):(nD c m k).set k (c k)=nD c m (k+1):=by
 refine bT (by simp [nD]) fun i h1 h2=> ?_
 simp only [nD,List.getElem_set,eT,List.getElem_range]
 by_cases e:k=i
 ·subst e;simp
 ·rw [if_neg e]
  by_cases g:i<k
  ·rw [if_pos g,if_pos (by omega)]
  ·rw [if_neg g,if_neg (by omega)]
theorem Zk(c:Nat ->Int)(m:Nat):nD c m m=(List.range m).map c:=by
 refine bT (by simp [nD]) fun i h1 h2=> ?_
 simp only [nD,eT,List.getElem_range]
 rw [if_pos (by simpa [nD] using h1)]
theorem Js(c:Nat ->Int)(n:Nat):nD c (laid c n).length (laid c n).length=laid c n:=by
 rw [Zk];exact (Jp c n).symm
theorem Zl(c:Nat ->Int)(n k:Nat)(h:laid c (k+1)=laid c n)(h0:c k=0):laid c k=laid c n:=by rw [<-h,Zh c k h0]
theorem Zm(c:Nat ->Int)(n k:Nat)(h:laid c (k+1)=laid c n)(h0:¬ c k=0):(laid c n).length=k+1:=by rw [<-h,J9 c k h0]
end Go.Proofs.YtfgcodcablpdcaaGreat.Plain
namespace Go.Proofs.YtfgcodcablpdcaaGreat
open Go.Proofs.Tryz
open Go.RowKit Plain
def gQ(w:World)(v:Value)(xs:Ints):Prop:=
 ∃ a cap,v= .slice a xs.length cap/\xs.length<=cap/\cap<=maxLen/\(a=none ->cap=0)/\
  (0<xs.length ->∃ b off,a=some ⟨b,off,none⟩/\∀ j,j<xs.length ->w.cell? ⟨b,off+j,none⟩=some (Value.int .i64 (xs.getD j 0)))
theorem gQ.nil(w:World):gQ w (.slice none 0 0) []:=⟨none,0,rfl,aL _,aL _,fun _=>rfl,fun h=>absurd h (by simp)⟩
theorem gQ.empty(w:World)(a:Addr)(cap:Nat)(h:cap<=maxLen):gQ w (.slice (some a) 0 cap) []:=⟨some a,cap,rfl,aL _,h,(by simp),fun h=>absurd h (by simp)⟩
theorem gQ.of_cell{w w':World}{v:Value}{xs:Ints}(h:gQ w v xs)(hc:∀ a,w'.cell? a=w.cell? a):gQ w' v xs:=by
 obtain ⟨a,cap,rfl,h1,h2,h0,h3⟩:=h;refine ⟨a,cap,rfl,h1,h2,h0,fun hp=> ?_⟩;obtain ⟨b,off,rfl,g⟩:=h3 hp;exact ⟨b,off,rfl,fun j hj=>(hc _).trans (g j hj)⟩
theorem gQ.below'{N:Nat}{w w':World}{v:Value}{xs:Ints}(h:gQ w v xs)(hb:Below N w w')(hN:w.heap.size<=N):gQ w' v xs:=by
 obtain ⟨a,cap,rfl,h1,h2,h0,h3⟩:=h;refine ⟨a,cap,rfl,h1,h2,h0,fun hp=> ?_⟩;obtain ⟨b,off,rfl,hc⟩:=h3 hp;refine ⟨b,off,rfl,fun j hj=> ?_⟩;have hlt:b<w.heap.size:=aG w ⟨b,off+j,none⟩ (hc j hj);exact (hb.cell (p:=⟨b,off+j,none⟩) (show b<N by omega)).trans (hc j hj)
theorem gQ.below{w w':World}{v:Value}{xs:Ints}(h:gQ w v xs)(hb:Below w.heap.size w w'):gQ w' v xs:=gQ.below' h hb (ah _)
theorem gQ.iB{w:World}{v:Value}{xs:Ints}(h:gQ w v xs)(o:Obj):gQ (w.alloc o) v xs:=h.below ((aj _ _).alloc (ah _) _)
theorem gQ.parts{w:World}{v:Value}{xs:Ints}(h:gQ w v xs):∃ a cap,v= .slice a xs.length cap/\xs.length<=cap/\cap<=maxLen/\(a=none ->cap=0)/\gQ w (.slice a xs.length cap) xs:=by
 have h':=h;obtain ⟨a,cap,rfl,h1,h2,h0,h3⟩:=h;exact ⟨a,cap,rfl,h1,h2,h0,h'⟩
theorem gQ.spot{w:World}{v:Value}{xs:Ints}(h:gQ w v xs)(hp:0<xs.length):∃ b o cap,v= .slice (some ⟨b,o,none⟩) xs.length cap/\xs.length<=cap/\cap<=maxLen/\gQ w (.slice (some ⟨b,o,none⟩) xs.length cap) xs/\∀ j,j<xs.length ->w.cell? ⟨b,o+j,none⟩=some (Value.int .i64 (xs.getD j 0)):=by
 have h':=h;obtain ⟨a,cap,rfl,h1,h2,h0,h3⟩:=h;obtain ⟨b,o,rfl,hc⟩:=h3 hp;exact ⟨b,o,cap,rfl,h1,h2,h',hc⟩
theorem gQ.first{w:World}{a:Option Addr}{n cap:Nat}{xs:Ints}(h:gQ w (.slice a n cap) xs)(k:Nat)(hk:k<=xs.length):gQ w (.slice a k cap) (xs.take k):=by
 obtain ⟨a',cap',hv,h1,h2,h0,h3⟩:=h;simp only [aC] at hv
 obtain ⟨rfl,rfl,rfl⟩:=hv;have hl:(xs.take k).length=k:=by rw [aO];omega
 refine ⟨a,cap,by rw [hl],by omega,h2,h0,fun hp=> ?_⟩;obtain ⟨b,off,rfl,hc⟩:=h3 (by omega);refine ⟨b,off,rfl,fun j hj=> ?_⟩;rw [hc j (by omega)];simp [List.getD,show j<k by omega]
def gI(B:Nat)(w:World)(v:Value)(xs:Ints):Prop:=w.ownsRow B 3 1 v xs.length (xs.map (Value.int .i64))
theorem gI.nil(B:Nat)(w:World):gI B w (.slice none 0 0) []:=World.ownsRow_nil _ _ _ _
theorem Ej(xs:Ints)(j:Nat)(hj:j<xs.length):(xs.map (Value.int .i64))[j]? =some (Value.int .i64 (xs.getD j 0)):=by
 simp [List.getD,List.getElem?_eq_getElem hj]
theorem gI.seq{B:Nat}{w:World}{v:Value}{xs:Ints}(h:gI B w v xs):gQ w v xs:=by
 have h':=h
 rcases h.2 with ⟨rfl,hn⟩|⟨g,cap,cur,rfl,hb,hg,hnc,hcm,hcs,htake⟩
 ·obtain rfl:xs=[]:=aK hn
  exact gQ.nil w
 ·refine ⟨_,cap,rfl,hnc,hcm,(by simp),fun hp=>⟨g,0,rfl,fun j hj=> ?_⟩⟩
  have:=bI h' j (by omega);rw [aJ,this,Ej xs j hj]
theorem gI.parts{B:Nat}{w:World}{v:Value}{xs:Ints}(h:gI B w v xs):∃ a cap,v= .slice a xs.length cap/\xs.length<=cap/\cap<=maxLen/\gI B w (.slice a xs.length cap) xs/\(a=none ->cap=0):=by
 obtain ⟨a,cap,rfl,h1,h2,h0,hs⟩:=h.seq.parts;exact ⟨a,cap,rfl,h1,h2,h,h0⟩
theorem gI.lt{B:Nat}{w:World}{v:Value}{xs:Ints}(h:gI B w v xs):∀ k,v.ownBlock=some k ->B<=k/\k<w.heap.size:=fG h
theorem gI.alloc{B:Nat}{w:World}{v:Value}{xs:Ints}(h:gI B w v xs)(o:Obj):gI B (w.alloc o) v xs:=World.ownsRow.alloc h o
theorem gI.mono{B C:Nat}{w:World}{v:Value}{xs:Ints}(h:gI B w v xs)(hc:C<=B):gI C w v xs:=by
 refine ⟨h.1,?_⟩
 rcases h.2 with hn|⟨g,cap,cur,hv,hb,hg⟩
 ·exact .inl hn
 ·exact .inr ⟨g,cap,cur,hv,by omega,hg⟩
theorem gI.below{B N:Nat}{w w':World}{v:Value}{xs:Ints}(h:gI B w v xs)(hb:Below N w w')(hN:w.heap.size<=N):gI B w' v xs:=by
 refine ⟨h.1,?_⟩
 rcases h.2 with hn|⟨g,cap,cur,hv,hb',hg,hr⟩
 ·exact .inl hn
 ·have hlt:g<w.heap.size:=(aH.1 hg).1
  exact .inr ⟨g,cap,cur,hv,hb',(hb.block g (by omega)).trans hg,hr⟩
theorem gI.empty(w:World)(B:Nat)(hB:B<=w.heap.size):gI B (w.alloc (.cells #[] 3)) (.slice (some ⟨w.heap.size,0,none⟩) 0 0) []:=
 eG w #[] 0 hB (aL _) rfl
theorem gI.one(w:World)(B:Nat)(x:Int)(hB:B<=w.heap.size):gI B (w.alloc (.cells #[Value.int .i64 x] 3)) (.slice (some ⟨w.heap.size,0,none⟩) 1 1) [x]:=
 eG w #[Value.int .i64 x] 1 hB (by unfold maxLen;omega) rfl
theorem gQ.one(w:World)(x:Int):gQ (w.alloc (.cells #[.int .i64 x] 3)) (.slice (some ⟨w.heap.size,0,none⟩) 1 1) [x]:=
 (gI.one w w.heap.size x (ah _)).seq
def ED(w:World)(xs:Ints)(e:Ending)(w':World):Prop:=∃ v,e= .returned v/\gI w.heap.size w' v xs/\Below w.heap.size w w'
theorem infoI:(prog.info? 3).map (fun i=>(i.zero,i.size,i.bytes))=some (some (.int .i64 0),1,8):=by kernel_rfl
theorem ints_oneCell(ys:Ints):∀ u∈ys.map (Value.int .i64),u.oneCell'=true:=by
 intro u hu;obtain ⟨c,-,rfl⟩:=List.mem_map.1 hu
 rfl
theorem gQ.iY{w:World}{a:Option Addr}{n cap:Nat}{xs:Ints}(h:gQ w (.slice a n cap) xs):xs.length=n/\n<=cap/\cap<=9223372036854775807:=by
 obtain ⟨a',cap',hv,h1,h2,-,-⟩:=h;simp only [aC] at hv
 obtain ⟨rfl,rfl,rfl⟩:=hv;exact ⟨rfl,h1,h2⟩
theorem gI.cell{B:Nat}{w:World}{g n cap:Nat}{xs:Ints}(h:gI B w (.slice (some ⟨g,0,none⟩) n cap) xs)(j:Nat)(hj:j<xs.length):w.cell? ⟨g,j,none⟩=some (Value.int .i64 (xs.getD j 0)):=by
 have hn:=h.seq.iY.1;have h':w.ownsRow B 3 1 (.slice (some ⟨g,0,none⟩) n cap) n (xs.map (Value.int .i64)):=by rw [<-hn];unfold gI at h;rw [<-hn] at h;exact h
 rw [bI h' j (by omega),Ej xs j hj]
theorem gI.at{B:Nat}{w:World}{v:Value}{xs:Ints}(h:gI B w v xs)(n:Nat)(hn:xs.length=n):∃ a cap,v= .slice a n cap/\(n:Int)<=cap/\(cap:Int)<=9223372036854775807/\gI B w (.slice a n cap) xs:=by
 subst hn;obtain ⟨a,cap,rfl,h1,h2,h3,-⟩:=h.parts;have hm:maxLen=9223372036854775807:=rfl;exact ⟨a,cap,rfl,by omega,by omega,h3⟩
theorem gQ.drawn{w:World}{v:Value}{xs:Ints}(h:gQ w v xs)(n:Nat):gQ (w.drewN n) v xs:=h.below (below_drewN (aj _ _) n)
theorem map_setI(xs:Ints)(k:Nat)(c:Int):(xs.set k c).map (Value.int .i64)=(xs.map (Value.int .i64)).set k (Value.int .i64 c):=by
 simp [List.map_set]
theorem CS{w:World}{ops:Array Oper}{rest:List Oper}{o:Oper}{a:Act}{Q:Exit ->Act ->World ->Prop}(hg:o.guard=none)(l:Operand)(ho:o.op=Op.makeSlice 25 l l)
  (m:Int) (n:Nat) (hl:a.eval l= .int .i64 m) (hm:m=(n:Int)) (hn:n<=16777216)
  (h:∀ w',gI w.heap.size w' (.slice (some ⟨w.heap.size,0,none⟩) n n) (List.replicate n 0) ->Below w.heap.size w w' ->wpList prog ops Q rest (a.put o.dst (.slice (some ⟨w.heap.size,0,none⟩) n n)) w'):
  wpList prog ops Q (o::rest) a w:=by
 subst hm;obtain ⟨i0,hi,hz0,hz1,hz2⟩:=info_parts infoI;refine wpList_make_row w hg l l 25 ho 3 i0 (.int .i64 0) underlying25 hi hz0 hz1 rfl .i64 .i64 n hl hl (by rw [hz2];omega) (by omega) ?_;refine h _ ?_ ((aj _ _).alloc (ah _) _);have hr:=eG (base:=w.heap.size) (e:=3) (size:=1) w (madeCells #[.int .i64 0] n) n (ah _) (by unfold maxLen;omega) (by rw [size_madeCells,eY]);rw [toList_madeCells_one] at hr;have e:List.replicate n (Value.int .i64 0)=(List.replicate n 0).map (Value.int .i64):=by rw [List.map_replicate]
 rw [e] at hr;unfold gI;rw [bW];exact hr
theorem gI.free{B:Nat}{w:World}{g n cap:Nat}{xs:Ints}(h:gI B w (.slice (some ⟨g,0,none⟩) n cap) xs)(j:Nat):w.frozen? ⟨g,j,none⟩=false:=by
 have hn:=h.seq.iY.1;have h':w.ownsRow B 3 1 (.slice (some ⟨g,0,none⟩) n cap) n (xs.map (Value.int .i64)):=by rw [<-hn];unfold gI at h;rw [<-hn] at h;exact h
 exact dh h' j
theorem gI.set{B:Nat}{w:World}{g n cap:Nat}{xs:Ints}(h:gI B w (.slice (some ⟨g,0,none⟩) n cap) xs)(j:Nat)(x:Int):gI B (w.setCell ⟨g,j,none⟩ (.int .i64 x)) (.slice (some ⟨g,0,none⟩) n cap) (xs.set j x):=by
 have hn:=h.seq.iY.1;have h':w.ownsRow B 3 1 (.slice (some ⟨g,0,none⟩) n cap) n (xs.map (Value.int .i64)):=by rw [<-hn];unfold gI at h;rw [<-hn] at h;exact h
 have hs:=(bQ h' j (Value.int .i64 x)).1;rw [<-map_setI] at hs;unfold gI;rw [aX,hn];exact hs
theorem gI.block{B:Nat}{w:World}{g n cap:Nat}{xs:Ints}(h:gI B w (.slice (some ⟨g,0,none⟩) n cap) xs):B<=g/\g<w.heap.size:=h.lt g rfl
end Go.Proofs.YtfgcodcablpdcaaGreat
set_option maxRecDepth 100000
set_option maxHeartbeats 64000000
namespace Go.Proofs.YtfgcodcablpdcaaGreat.Plain
open Go.Proofs.Tryz
def hat(h:List Int)(i:Nat):Int:=h.getD i 0
def hswap(h:List Int)(i j:Nat):List Int:=(h.set i (hat h j)).set j (hat h i)
theorem Og{h:List Int}{i:Nat}(hi:i<h.length):hat h i=h[i]:=by unfold hat;simp [List.getD,hi]
theorem Em(h:List Int)(i j:Nat):(hswap h i j).length=h.length:=by unfold hswap;simp
theorem uy{h:List Int}{i j:Nat}(hi:i<h.length)(hj:j<h.length)(k:Nat):hat (hswap h i j) k=if k=j then hat h i else if k=i then hat h j else hat h k:=by
 unfold hswap
 show ((h.set i (hat h j)).set j (hat h i)).getD k 0=_
 simp only [List.getD,dx,aX]
 by_cases c:j=k
 ·subst c;simp [hj]
 ·rw [if_neg c,if_neg (fun e:k=j=>c e.symm)]
  by_cases d:i=k
  ·subst d;simp [hi,hat]
  ·rw [if_neg (fun e:k=i=>d e.symm)]
   simp [d,hat]
theorem uz{h:List Int}{i j:Nat}(hi:i<h.length)(hj:j<h.length):(hswap h i j).Perm h:=by
 unfold hswap;rw [Og hi,Og hj];exact List.set_set_perm hi hj
def Bp(n:Nat)(h:List Int):Prop:=∀ k,0<k ->k<n ->hat h ((k-1)/2)<=hat h k
def sG(h:List Int):Prop:=Bp h.length h
structure UpI(h:List Int)(j:Nat):Prop where
 one:∀ k,0<k ->k<h.length ->k≠j ->hat h ((k-1)/2)<=hat h k
 two:∀ k,0<k ->k<h.length ->(k-1)/2=j ->0<j ->hat h ((j-1)/2)<=hat h k
theorem UpI.stop{h:List Int}{j:Nat}(H:UpI h j)(hs:j=0\/¬ hat h j<hat h ((j-1)/2)):sG h:=fun k h0 hk=>by
 by_cases c:k=j
 ·subst c
  rcases hs with e|e
  ·omega
  ·exact Int.not_lt.1 e
 ·exact H.one k h0 hk c
theorem UpI.step{h:List Int}{j:Nat}(H:UpI h j)(h0:0<j)(hj:j<h.length)(hs:hat h j<hat h ((j-1)/2)):UpI (hswap h ((j-1)/2) j) ((j-1)/2):=by
 have hi:(j-1)/2<h.length:=by omega
 have e:=uy hi hj;generalize hI:(j-1)/2=i at*
 constructor
 ·intro k k0 hk hne
  rw [Em] at hk;rw [e,e]
  by_cases c:k=j
  ·subst c
   rw [if_pos rfl,hI,if_neg (by omega),if_pos rfl];omega
  ·rw [if_neg c,if_neg hne]
   by_cases d:(k-1)/2=j
   ·rw [if_pos d]
    rw [<-hI];exact H.two k k0 hk d h0
   ·rw [if_neg d]
    have h1:=H.one k k0 hk c
    by_cases f:(k-1)/2=i
    ·rw [if_pos f];rw [f] at h1;omega
    ·rw [if_neg f];exact h1
 ·intro k k0 hk hp i0
  rw [Em] at hk;rw [e,e,if_neg (show ¬ (i-1)/2=j by omega),if_neg (show ¬ (i-1)/2=i by omega)];have h2:=H.one i i0 hi (by omega)
  by_cases c:k=j
  ·rw [if_pos c];exact h2
  ·rw [if_neg c,if_neg (by omega)]
   have h1:=H.one k k0 hk c;rw [hp] at h1;omega
structure DnI(n:Nat)(h:List Int)(i:Nat):Prop where
 one:∀ k,0<k ->k<n ->(k-1)/2≠i ->hat h ((k-1)/2)<=hat h k
 two:∀ k,0<k ->k<n ->(k-1)/2=i ->0<i ->hat h ((i-1)/2)<=hat h k
theorem DnI.stop{n:Nat}{h:List Int}{i:Nat}(H:DnI n h i)(hs:∀ k,0<k ->k<n ->(k-1)/2=i ->hat h i<=hat h k):Bp n h:=fun k h0 hk=>by
 by_cases c:(k-1)/2=i
 ·rw [c];exact hs k h0 hk c
 ·exact H.one k h0 hk c
theorem DnI.step{n:Nat}{h:List Int}{i j:Nat}(H:DnI n h i)(hn:n<=h.length)(h0:0<j)(hj:j<n)(hp:(j-1)/2=i)(hs:hat h j<hat h i)(hm:∀ k,0<k ->k<n ->(k-1)/2=i ->hat h j<=hat h k):
  DnI n (hswap h i j) j:=by
 have e:=uy (h:=h) (i:=i) (j:=j) (by omega) (by omega)
 constructor
 ·intro k k0 hk hne
  rw [e,e]
  by_cases c:k=j
  ·subst c
   rw [if_neg hne,if_pos hp,if_pos rfl];omega
  ·rw [if_neg hne,if_neg c]
   by_cases d:(k-1)/2=i
   ·rw [if_pos d,if_neg (by omega)];exact hm k k0 hk d
   ·rw [if_neg d]
    by_cases f:k=i
    ·rw [if_pos f]
     subst f;exact H.two j h0 hj hp k0
    ·rw [if_neg f];exact H.one k k0 hk d
 ·intro k k0 hk hpk _
  rw [e,e,if_neg (show ¬ (j-1)/2=j by omega),if_pos hp,if_neg (show ¬ k=j by omega),if_neg (show ¬ k=i by omega)];have:=H.one k k0 hk (by omega);rw [hpk] at this;exact this
theorem Bp.least{n:Nat}{h:List Int}(H:Bp n h):∀ k,k<n ->hat h 0<=hat h k:=by
 intro k
 induction k using Nat.strongRecOn with
 |ind k ih=>
  intro hk
  by_cases c:k=0
  ·subst c;exact dD _
  ·exact dG (ih ((k-1)/2) (by omega) (by omega)) (H k (by omega) hk)
theorem Zn{h:List Int}(H:sG h)(x:Int):UpI (h++[x]) h.length:=by
 constructor
 ·intro k k0 hk hne
  rw [aA,List.length_singleton] at hk;have h1:k<h.length:=by omega
  have:=H k k0 h1;unfold hat at this ⊢;simp only [List.getD] at this ⊢
  rw [dI h1,dI (by omega)];exact this
 ·intro k k0 hk hp _
  rw [aA,List.length_singleton] at hk;omega
theorem heap_pop{h:List Int}(H:sG h)(h0:0<h.length):DnI (h.length-1) (hswap h 0 (h.length-1)) 0:=by
 have e:=uy (h:=h) (i:=0) (j:=h.length-1) h0 (by omega)
 constructor
 ·intro k k0 hk hne
  rw [e,e,if_neg (by omega),if_neg (by omega),if_neg (by omega),if_neg (by omega)];exact H k k0 (by omega)
 ·intro k _ _ _ h;omega
theorem Vs:sG []:=fun k _ hk=>by simp at hk
theorem Zo{n:Nat}{h:List Int}(H:Bp n h)(hn:n<=h.length):sG (h.take n):=fun k k0 hk=>by
 rw [aO] at hk;have:=H k k0 (by omega);unfold hat at this ⊢;simp only [List.getD] at this ⊢
 rw [List.getElem?_take_of_lt (by omega),List.getElem?_take_of_lt (by omega)];exact this
theorem Zp{n:Nat}{h:List Int}(hn:h.length=n+1):h=h.take n++[hat h n]:=by
 rw [Og (by omega)];have:=bK (l:=h) (i:=n) (by omega);rw [<-this,cZ (by omega)]
theorem mem_hat{h:List Int}{x:Int}(hx:x∈h):∃ i,i<h.length/\hat h i=x:=by
 obtain ⟨i,hi,e⟩:=dJ.1 hx;exact ⟨i,hi,by rw [Og hi,e]⟩
end Go.Proofs.YtfgcodcablpdcaaGreat.Plain
namespace Go.Proofs.YtfgcodcablpdcaaGreat
open Go.Proofs.Tryz
open Go.RowKit Plain
structure jF(F:Nat ->Prop)(w w':World):Prop where
 os:w'.os=w.os
 tape:w'.tape=w.tape
 output:w'.output=w.output
 size:w.heap.size<=w'.heap.size
 block:∀ k,k<w.heap.size ->¬ F k ->w'.heap[k]? =w.heap[k]?
theorem jF.refl(F:Nat ->Prop)(w:World):jF F w w:=⟨rfl,rfl,rfl,ah _,fun _ _ _=>rfl⟩
theorem jF.of{F:Nat ->Prop}{w w':World}(h:Below w.heap.size w w'):jF F w w':=⟨h.os,h.tape,h.output,h.size,fun k hk _=>h.block k hk⟩
theorem jF.below{F:Nat ->Prop}{B:Nat}{w w':World}(h:jF F w w')(hB:B<=w.heap.size)(hF:∀ k,F k ->B<=k):Below B w w':=
 ⟨h.os,h.tape,h.output,h.size,fun k hk=>h.block k (by omega) fun f=>by have:=hF k f;omega⟩
theorem jF.trans{F G:Nat ->Prop}{a b c:World}(h:jF F a b)(k:jF G b c)(hG:∀ x,x<a.heap.size ->G x ->F x):jF F a c:=
 ⟨k.os.trans h.os,k.tape.trans h.tape,k.output.trans h.output,ak h.size k.size,fun x hx hn=>(k.block x (ay hx h.size) fun g=>hn (hG x hx g)).trans (h.block x hx hn)⟩
theorem jF.mono{F G:Nat ->Prop}{a b:World}(h:jF F a b)(hG:∀ x,x<a.heap.size ->F x ->G x):jF G a b:=⟨h.os,h.tape,h.output,h.size,fun x hx hn=>h.block x hx fun f=>hn (hG x hx f)⟩
theorem jF.then{F:Nat ->Prop}{a b c:World}(h:jF F a b)(k:Below b.heap.size b c):jF F a c:=h.trans (jF.of (F:=fun _=>False) k) fun _ _ f=>f.elim
theorem jF.set{F:Nat ->Prop}{w:World}{g i:Nat}{v:Value}(hg:F g):jF F w (w.setCell ⟨g,i,none⟩ v):=
 ⟨rfl,rfl,rfl,by simp [World.setCell],fun k _ hn=>aN _ _ _ _ fun e=>hn (by rw [show k=g from e];exact hg)⟩
theorem jF.grown{F:Nat ->Prop}{w w':World}{row:Option Nat}(hg:w.grownBy w' row)(hr:∀ k,row=some k ->F k):jF F w w':=
 ⟨hg.os,hg.tape,hg.output,hg.size,fun k hk hn=>hg.block k hk fun e=>hn (hr k e.symm)⟩
theorem jF.drawn{F:Nat ->Prop}{w w':World}(h:jF F w w')(n:Nat):jF F w (w'.drewN n):=h.then (below_drewN (aj _ _) n)
theorem jF.set2(w:World)(b i j:Nat)(x y:Value):jF (fun k=>k=b) w ((w.setCell ⟨b,i,none⟩ x).setCell ⟨b,j,none⟩ y).drew:=by
 have h1:jF (fun k=>k=b) w (w.setCell ⟨b,i,none⟩ x):=jF.set rfl;have h2:jF (fun k=>k=b) (w.setCell ⟨b,i,none⟩ x) ((w.setCell ⟨b,i,none⟩ x).setCell ⟨b,j,none⟩ y):=jF.set rfl;exact (h1.trans h2 fun _ _ e=>e).then (aj _ _).drew
theorem En{w:World}(S:TypeId)(hS:prog.underlying S=some (.slice 3))(B:Nat)(ty:TypeId){v u:Value}{xs ys:Ints}(hown:gI B w v xs)(hseq:gQ w u ys)(hlen:xs.length+ys.length<=1073741824)(hbase:B<=w.heap.size):
  ∃ v' w',(Builtin.append_ #[S,S] ty #[v,u]).run prog w= .ok v' w'/\gI B w' v' (xs++ys)/\w.grownBy w' v.ownBlock/\(v'.ownBlock=v.ownBlock\/v'.ownBlock=some w.heap.size):=by
 obtain ⟨i0,hi,hz0,hz1,hz2⟩:=info_parts infoI;obtain ⟨a,cap,rfl,h1,h2,h0,h3⟩:=hseq
 cases a with
 |none=>
  obtain rfl:=h0 rfl;obtain rfl:ys=[]:=aK (by omega);refine ⟨v,w,run_append_owned_none (P:=prog) (w:=w) B S ty 3 i0 1 hS hi v _ _ hown,?_,bV _ _,.inl rfl⟩;rw [aV];exact hown
 |some ad=>
  obtain ⟨v',w',hr,ho,hg,-,hat⟩:=run_append_own_at (P:=prog) w B S ty 3 i0 (.int .i64 0) 1 8 hS hi hz0 hz1 hz2 rfl (by decide) v _ _ hown ad ys.length cap (ys.map (Value.int .i64)) (by simp) (fun j u hu=>by
    have hj:j<ys.length:=by
     have:=(aP.1 hu).1
     simpa using this
    obtain ⟨b,off,he,hc⟩:=h3 (by omega)
    cases he
    rw [Ej ys j hj] at hu
    cases hu
    rw [Addr.add_lit];exact hc j hj) (ints_oneCell _) (by unfold maxLen;omega) (by omega) hbase
  exact ⟨v',w',hr,by unfold gI;rw [aA,List.map_append];exact ho,hg,hat⟩
theorem wu{w:World}{ops:Array Oper}{o:Oper}{act:Act}{K:Act ->World ->Prop}{Q:Exit ->Act ->World ->Prop}{E:Prop}(S:TypeId)(hS:prog.underlying S=some (.slice 3))(hw:Region.wanted o (yielded ops act.tmps)=true)(s x:Operand)
  (ho:o.op= .call {callee:= .builtin .append,args:=#[s,x],argTypes:=#[S,S]}) (B:Nat) {v u:Value} {xs ys:Ints}
  (hs:act.eval s=v) (hown:gI B w v xs) (hx:act.eval x=u) (hseq:gQ w u ys) (hlen:xs.length+ys.length<=1073741824) (hbase:B<=w.heap.size)
  (h:∀ v' w',gI B w' v' (xs++ys) ->w.grownBy w' v.ownBlock ->(v'.ownBlock=v.ownBlock\/v'.ownBlock=some w.heap.size) ->K (act.put o.dst v') w'):if Region.wanted o (yielded ops act.tmps)=true then Oper.wp prog o act w K Q else E:=by
 rw [if_pos hw];obtain ⟨v',w',hr,h2,h3,h4⟩:=En S hS B o.type hown hseq hlen hbase;unfold Oper.wp execOp;simp only [ho,resolve,invoke,builtin,Sem.run_bind,Sem.run_pure,Result.andThen_ok,List.map_toArray,List.map_cons,List.map_nil,hs,hx,hr]
 exact h v' w' h2 h3 h4
def Rx(lv hv rv mv:Value):Obj:= .cells #[lv,hv,rv,mv] 217 (0,0)
structure kg(w:World)(B g:Nat)(lv hv mv rv:Value)(xs:List Int):Prop where
 box:w.heap[g]? =some (Rx lv hv rv mv)
 row:gI B w rv xs
 low:B<=g
theorem kg.cell{w:World}{B g:Nat}{lv hv mv rv:Value}{xs:List Int}(h:kg w B g lv hv mv rv xs):
  (w.cell? ⟨g,0,none⟩=some lv/\w.cell? ⟨g,1,none⟩=some hv/\w.cell? ⟨g,2,none⟩=some rv/\w.cell? ⟨g,3,none⟩=some mv)/\w.frozen? ⟨g,1,none⟩=false/\w.frozen? ⟨g,2,none⟩=false:=by
 have hb:=h.box;unfold Rx at hb;refine ⟨⟨?_,?_,?_,?_⟩,?_,?_⟩
 ·simp [World.cell?,hb]
 ·simp [World.cell?,hb]
 ·simp [World.cell?,hb]
 ·simp [World.cell?,hb]
 ·unfold World.frozen?;rw [hb];simp
 ·unfold World.frozen?;rw [hb];simp
theorem kg.lt{w:World}{B g:Nat}{lv hv mv rv:Value}{xs:List Int}(h:kg w B g lv hv mv rv xs):g<w.heap.size:=(aH.1 h.box).1
theorem E8:217≠3:=by decide
theorem kg.apart{w:World}{B g:Nat}{lv hv mv rv:Value}{xs:List Int}(h:kg w B g lv hv mv rv xs):rv.ownBlock≠some g:=by
 intro e;obtain ⟨c,fz,hk⟩:=Lib.ownsRow_kind h.row g e;rw [h.box] at hk;simp only [Rx,bS,dY] at hk
 exact E8 hk.2.1
theorem kg.below{w w':World}{B g:Nat}{lv hv mv rv:Value}{xs:List Int}(h:kg w B g lv hv mv rv xs)(hb:Below w.heap.size w w'):kg w' B g lv hv mv rv xs:=
 ⟨(hb.block g h.lt).trans h.box,h.row.below hb (ah _),h.low⟩
theorem kg.drawn{w:World}{B g:Nat}{lv hv mv rv:Value}{xs:List Int}(h:kg w B g lv hv mv rv xs)(n:Nat):kg (w.drewN n) B g lv hv mv rv xs:=h.below (below_drewN (aj _ _) n)
theorem gI.keep{B:Nat}{w w':World}{v:Value}{xs:List Int}(h:gI B w v xs)(hk:∀ k,v.ownBlock=some k ->w'.heap[k]? =w.heap[k]?):gI B w' v xs:=by
 refine ⟨h.1,?_⟩
 rcases h.2 with hn|⟨g,cap,cur,hv,hb',hg,hr⟩
 ·exact .inl hn
 ·exact .inr ⟨g,cap,cur,hv,hb',(hk g (by rw [hv];rfl)).trans hg,hr⟩
structure nU(g:Nat)(w:World)(rv:Value)(w':World)(rv':Value):Prop where
 but:jF (fun k=>k=g\/rv.ownBlock=some k) w w'
 own:∀ k,rv'.ownBlock=some k ->rv.ownBlock=some k\/w.heap.size<=k
theorem nU.refl(g:Nat)(w:World)(rv:Value):nU g w rv w rv:=⟨jF.refl _ _,fun _ h=> .inl h⟩
theorem nU.trans{g:Nat}{a b c:World}{x y z:Value}(h:nU g a x b y)(k:nU g b y c z):nU g a x c z:=
 ⟨h.but.trans k.but fun n hn e=>e.imp id fun e=>(h.own n e).resolve_right (by omega),fun n e=>(k.own n e).elim (h.own n) fun l=> .inr (ak h.but.size l)⟩
theorem nU.drawn{g:Nat}{a b:World}{x y:Value}(h:nU g a x b y)(n:Nat):nU g a x (b.drewN n) y:=⟨h.but.drawn n,h.own⟩
theorem kg.spot{w:World}{B g:Nat}{lv hv mv rv:Value}{xs:List Int}(h:kg w B g lv hv mv rv xs)(hp:0<xs.length):∃ b c,rv= .slice (some ⟨b,0,none⟩) xs.length c/\xs.length<=c/\c<=maxLen:=by
 rcases h.row.2 with ⟨-,hn⟩|⟨b,c,cur,rfl,-,-,hnc,hcm,-⟩
 ·omega
 ·exact ⟨b,c,rfl,hnc,hcm⟩
theorem kg.app{w u:World}{B g:Nat}{lv hv mv rv v:Value}{xs ys:List Int}{o:Obj}(h:kg w B g lv hv mv rv xs)(ho:gI B u v ys)(hg:(w.drew.alloc o).grownBy u rv.ownBlock)(hat:v.ownBlock=rv.ownBlock\/v.ownBlock=some (w.drew.alloc o).heap.size):
  (u.cell? ⟨g,2,none⟩=some rv/\u.frozen? ⟨g,2,none⟩=false)/\kg (u.setCell ⟨g,2,none⟩ v) B g lv hv mv v ys/\nU g w rv (u.setCell ⟨g,2,none⟩ v) v:=by
 have hz:(w.drew.alloc o).heap.size=w.heap.size+1:=by simp
 have hlt:=h.lt;have hbx:u.heap[g]? =some (Rx lv hv rv mv):=(hg.block g (by omega) fun e=>h.apart e.symm).trans ((Below.heap_alloc _ _ _ hlt).trans h.box);have hne:v.ownBlock≠some g:=by
  rcases hat with e|e
  ·rw [e];exact h.apart
  ·rw [e,hz];intro e2;cases e2;omega
 refine ⟨?_,⟨aB _ g 2 _ _ _ hbx,ho.keep fun k hk=>aN _ _ _ _ fun e=>hne (by rw [hk,show k=g from e]),h.low⟩,?_,?_⟩
 ·unfold Rx at hbx
  refine ⟨by simp [World.cell?,hbx],?_⟩;unfold World.frozen?;rw [hbx];simp
 ·have h1:jF (fun k=>k=g\/rv.ownBlock=some k) w (w.drew.alloc o):=jF.of ((aj _ _).drew.alloc (ah _) o)
  have h2:jF (fun k=>k=g\/rv.ownBlock=some k) w u:=h1.trans (jF.grown (F:=fun k=>rv.ownBlock=some k) hg fun k e=>e) fun k _ e=> .inr e
  exact h2.trans (jF.set (F:=fun k=>k=g) rfl) fun k _ e=> .inl e
 ·intro k hk
  rcases hat with e|e
  ·rw [e] at hk;exact .inl hk
  ·rw [e,hz] at hk;cases hk;exact .inr (by omega)
theorem CU(w:World)(a:Option Addr)(n c:Nat):Calls prog 258 #[.slice a n c] w fun e w'=>e= .returned (.int .i64 n)/\w=w':=by
 go_enter func258,ntmps258
 go_wp2_with fail
 go_ret
 exact ⟨rfl,rfl⟩
theorem tC{B:Nat}{w:World}{b n c:Nat}{xs:List Int}(h:gI B w (.slice (some ⟨b,0,none⟩) n c) xs){i j:Nat}(hi:i<n)(hj:j<n):
  Calls prog 358 #[.slice (some ⟨b,0,none⟩) n c,.int .i64 i,.int .i64 j] w fun e w'=>e= .returned (.bool (decide (hat xs i<hat xs j)))/\∃ q,w'=w.drewN q:=by
 have hd:=h.seq.iY;have ci:=h.cell i (by omega);have cj:=h.cell j (by omega);have e1:xs.getD i 0=hat xs i:=rfl;have e2:xs.getD j 0=hat xs j:=rfl;rw [e1] at ci;rw [e2] at cj;obtain ⟨-,d1,d2⟩:=hd;clear e1 e2 h;generalize hat xs i=x at*;generalize hat xs j=y at*;go_enter func358,ntmps358
 go_wp2_with fail
 go_quiet (fail)
 go_wp2_with fail
 go_ret
 exact ⟨rfl,_,rfl⟩
theorem wD{B:Nat}{w:World}{b n c:Nat}{xs:List Int}(h:gI B w (.slice (some ⟨b,0,none⟩) n c) xs){i j:Nat}(hi:i<n)(hj:j<n):
  Calls prog 360 #[.slice (some ⟨b,0,none⟩) n c,.int .i64 i,.int .i64 j] w fun e w'=>e= .returned (.tuple #[])/\gI B w' (.slice (some ⟨b,0,none⟩) n c) (hswap xs i j)/\jF (fun k=>k=b) w w':=by
 have hd:=h.seq.iY;have ci:=h.cell i (by omega);have cj:=h.cell j (by omega);have fi:=h.free i;have fj:=h.free j;have e1:xs.getD i 0=hat xs i:=rfl;have e2:xs.getD j 0=hat xs j:=rfl;rw [e1] at ci;rw [e2] at cj;obtain ⟨-,d1,d2⟩:=hd;have HS:Hid (gI B ((w.setCell ⟨b,i,none⟩ (.int .i64 (hat xs j))).setCell ⟨b,j,none⟩ (.int .i64 (hat xs i))) (.slice (some ⟨b,0,none⟩) n c) (hswap xs i j)):=zH ((h.set i _).set j _);clear e1 e2 h;generalize hat xs i=x at*;generalize hat xs j=y at*;obtain ⟨v',hy'⟩:=cell?_setCell_some (w:=w) (p:=⟨b,i,none⟩) (x:= .int .i64 y) (q:=⟨b,j,none⟩) cj;go_enter func360,ntmps360
 go_wp2_with fail
 go_region
 all_goals (try go_wp2_with fail)
 all_goals go_end0
 all_goals exact ⟨rfl,HS.o.below (aj _ _).drew (ah _),jF.set2 w b i j _ _⟩
theorem mlen{w:World}{g:Nat}{rv:Value}(h:w.cell? ⟨g,2,none⟩=some rv):(method 443 260 (.pointer (some ⟨g,2,none⟩)) "Len").run prog w= .ok (258,rv) w:=by
 have e:(method 443 260 (.pointer (some ⟨g,2,none⟩)) "Len").run prog w=(match w.cell? ⟨g,2,none⟩ with
   |some v=> .ok (258,v) w
   |none=>match w.farLoad prog ⟨g,2,none⟩ (Mode.plain== .atomic) with
    | .ok (v,_)=> .ok (258,v) w
    | .error h=> .halt h w:Result (FuncId×Value)):=by kernel_rfl
 rw [e,h]
theorem Md{w:World}{g:Nat}{rv:Value}(h:w.cell? ⟨g,2,none⟩=some rv):(method 443 260 (.pointer (some ⟨g,2,none⟩)) "Less").run prog w= .ok (358,rv) w:=by
 have e:(method 443 260 (.pointer (some ⟨g,2,none⟩)) "Less").run prog w=(match w.cell? ⟨g,2,none⟩ with
   |some v=> .ok (358,v) w
   |none=>match w.farLoad prog ⟨g,2,none⟩ (Mode.plain== .atomic) with
    | .ok (v,_)=> .ok (358,v) w
    | .error h=> .halt h w:Result (FuncId×Value)):=by kernel_rfl
 rw [e,h]
theorem RX{w:World}{g:Nat}{rv:Value}(h:w.cell? ⟨g,2,none⟩=some rv):(method 443 260 (.pointer (some ⟨g,2,none⟩)) "Swap").run prog w= .ok (360,rv) w:=by
 have e:(method 443 260 (.pointer (some ⟨g,2,none⟩)) "Swap").run prog w=(match w.cell? ⟨g,2,none⟩ with
   |some v=> .ok (360,v) w
   |none=>match w.farLoad prog ⟨g,2,none⟩ (Mode.plain== .atomic) with
    | .ok (v,_)=> .ok (360,v) w
    | .error h=> .halt h w:Result (FuncId×Value)):=by kernel_rfl
 rw [e,h]
theorem mpush(w:World)(g:Nat):(method 443 260 (.pointer (some ⟨g,2,none⟩)) "Push").run prog w= .ok (362,.pointer (some ⟨g,2,none⟩)) w:=by kernel_rfl
theorem mpop(w:World)(g:Nat):(method 443 260 (.pointer (some ⟨g,2,none⟩)) "Pop").run prog w= .ok (361,.pointer (some ⟨g,2,none⟩)) w:=by kernel_rfl
theorem nlen(w:World)(g:Nat):(nilAhead 443 260 (.pointer (some ⟨g,2,none⟩)) "Len").run prog w= .ok (some false) w:=by kernel_rfl
theorem nless(w:World)(g:Nat):(nilAhead 443 260 (.pointer (some ⟨g,2,none⟩)) "Less").run prog w= .ok (some false) w:=by kernel_rfl
theorem nswap(w:World)(g:Nat):(nilAhead 443 260 (.pointer (some ⟨g,2,none⟩)) "Swap").run prog w= .ok (some false) w:=by kernel_rfl
theorem npush(w:World)(g:Nat):(nilAhead 443 260 (.pointer (some ⟨g,2,none⟩)) "Push").run prog w= .ok (some false) w:=by kernel_rfl
theorem npop(w:World)(g:Nat):(nilAhead 443 260 (.pointer (some ⟨g,2,none⟩)) "Pop").run prog w= .ok (some false) w:=by kernel_rfl
theorem Xb(x:Int)(w:World):(Instr.typeAssert (.iface 3 (.int .i64 x)) 20 3 false).run prog w= .ok (.int .i64 x) w:=by kernel_rfl
theorem Zq{w:World}{B g:Nat}{lv hv mv rv:Value}{xs:List Int}(h:kg w B g lv hv mv rv xs)(hB:B<=w.heap.size)(x:Int)(hl:xs.length<=1000000):
  Calls prog 362 #[.pointer (some ⟨g,2,none⟩),.iface 3 (.int .i64 x)] w fun e w'=>e= .returned (.tuple #[])/\∃ rv',kg w' B g lv hv mv rv' (xs++[x])/\nU g w rv w' rv':=by
 obtain ⟨⟨-,-,c2,-⟩,-,f2⟩:=h.cell;have H:=zH h;have LT:=zH h.lt;clear h;have tA:=Xb x;have cA:∀ o,(w.alloc o).cell? ⟨g,2,none⟩=some rv:=fun o=>(H.o.below ((aj _ _).alloc (ah _) o)).cell.1.2.2.1
 go_enter func362,ntmps362
 go_wp2_with fail
 go_region_law (refine wu 213 underlying213 (by rfl) _ _ (by rfl) B (by rfl) ((H.o.row.below (aj _ _).drew (ah _)).alloc _) (by rfl) (gQ.one _ x) (by simp;omega) (by simp;omega) ?_;intro v2 u2 ho2 hg2 hat;have HA:=zH (H.o.app ho2 hg2 hat);obtain ⟨⟨t2,t3⟩,-⟩:=HA.o;obtain ⟨a2,k2,rfl,-,-,-,-⟩:=ho2.parts)
 all_goals (try go_wp2_with fail)
 all_goals go_end0
 all_goals (have Z:=HA.o;rw [show (xs++[x]).length=xs.length+1 by simp] at Z;exact ⟨rfl,_,Z.2.1,Z.2.2⟩)
theorem gI.cut{B:Nat}{w:World}{b n c:Nat}{xs:List Int}(h:gI B w (.slice (some ⟨b,0,none⟩) n c) xs)(m:Nat)(hm:m<=n):gI B w (.slice (some ⟨b,0,none⟩) m c) (xs.take m):=by
 have hd:=h.seq.iY.1;have hl:(xs.take m).length=m:=by rw [aO];omega
 unfold gI at h ⊢;rw [hl];refine ⟨by rw [dH,hl,eY],.inr ?_⟩
 rcases h.2 with ⟨e,-⟩|⟨g,cap,cur,hv,hb,hg,hnc,hcm,hcs,ht⟩
 ·cases e
 ·simp only [aC,bS,Addr.mk.injEq,and_true] at hv
  obtain ⟨rfl,-,rfl⟩:=hv;refine ⟨b,c,cur,rfl,hb,hg,by omega,hcm,hcs,?_⟩;rw [List.map_take,<-ht,List.take_take]
  congr 1
  omega
theorem kg.put{w:World}{B g:Nat}{lv hv mv rv v:Value}{xs ys:List Int}(h:kg w B g lv hv mv rv xs)(ho:gI B w v ys)(he:v.ownBlock=rv.ownBlock):kg (w.setCell ⟨g,2,none⟩ v) B g lv hv mv v ys/\nU g w rv (w.setCell ⟨g,2,none⟩ v) v:=
 ⟨⟨aB _ g 2 _ _ _ h.box,ho.keep fun k hk=>aN _ _ _ _ fun e=>h.apart (by rw [<-he,hk,show k=g from e]),h.low⟩,jF.set (.inl rfl),fun k hk=> .inl (by rw [<-he];exact hk)⟩
theorem kg.swapped{w w':World}{B g b n c:Nat}{lv hv mv:Value}{xs ys:List Int}(h:kg w B g lv hv mv (.slice (some ⟨b,0,none⟩) n c) xs)(ho:gI B w' (.slice (some ⟨b,0,none⟩) n c) ys)(hb:jF (fun k=>k=b) w w'):
  kg w' B g lv hv mv (.slice (some ⟨b,0,none⟩) n c) ys/\nU g w (.slice (some ⟨b,0,none⟩) n c) w' (.slice (some ⟨b,0,none⟩) n c):=
 ⟨⟨(hb.block g h.lt fun e=>h.apart (by rw [e];rfl)).trans h.box,ho,h.low⟩,hb.mono fun k _ e=> .inr (by rw [e];rfl),fun k hk=> .inl hk⟩
theorem ppop_any{w:World}{B g:Nat}{lv hv mv rv:Value}{xs:List Int}(h:kg w B g lv hv mv rv xs)(n:Nat)(hn:xs.length=n+1):
  Calls prog 361 #[.pointer (some ⟨g,2,none⟩)] w fun e w'=>e= .returned (.iface 3 (.int .i64 (hat xs n)))/\∃ rv',kg w' B g lv hv mv rv' (xs.take n)/\nU g w rv w' rv':=by
 obtain ⟨b,c,rfl,d1,d2⟩:=h.spot (by omega);have hm:maxLen=9223372036854775807:=rfl;rw [hm] at d2;have HP:=zH (h.put (h.row.cut n (by omega)) rfl);obtain ⟨⟨-,-,c2,-⟩,-,f2⟩:=h.cell;have ci:=h.row.cell n (by omega);have e1:xs.getD n 0=hat xs n:=rfl;rw [e1] at ci;rw [hn] at d1 c2 HP ⊢;clear h e1;generalize hat xs n=x at*;go_enter func361,ntmps361
 go_wp2_with fail
 go_ret
 exact ⟨rfl,_,HP.o⟩
end Go.Proofs.YtfgcodcablpdcaaGreat