import Derived.Test.YtmknpmamkjjiaaaEls
import Derived.Test.YtmknpmamkjjiaaaVMath
set_option linter.unusedVariables false
namespace Go.Proofs.Ytmknpmamkjjiaaa
open Go.Proofs.Try
open Go.RowKit Plain
def bX(w:World)(v:Value)(xs:Ints):Prop:=
 ∃ a cap,v= .slice a xs.length cap/\xs.length<=cap/\cap<=maxLen/\(a=none ->cap=0)/\
  (0<xs.length ->∃ b off,a=some ⟨b,off,none⟩/\∀ j,j<xs.length ->w.cell? ⟨b,off+j,none⟩=some (Value.int .i64 (xs.getD j 0)))
theorem bX.nil(w:World):bX w (.slice none 0 0) []:=⟨none,0,rfl,aJ _,aJ _,fun _=>rfl,fun h=>absurd h (by simp)⟩
theorem bX.below'{N:Nat}{w w':World}{v:Value}{xs:Ints}(h:bX w v xs)(hb:Below N w w')(hN:w.heap.size<=N):bX w' v xs:=by
 obtain ⟨a,cap,rfl,h1,h2,h0,h3⟩:=h;refine ⟨a,cap,rfl,h1,h2,h0,fun hp=> ?_⟩;obtain ⟨b,off,rfl,hc⟩:=h3 hp;refine ⟨b,off,rfl,fun j hj=> ?_⟩;have hlt:b<w.heap.size:=ay w ⟨b,off+j,none⟩ (hc j hj);exact (hb.cell (p:=⟨b,off+j,none⟩) (show b<N by omega)).trans (hc j hj)
theorem bX.below{w w':World}{v:Value}{xs:Ints}(h:bX w v xs)(hb:Below w.heap.size w w'):bX w' v xs:=bX.below' h hb (aj _)
theorem bX.parts{w:World}{v:Value}{xs:Ints}(h:bX w v xs):∃ a cap,v= .slice a xs.length cap/\xs.length<=cap/\cap<=maxLen/\(a=none ->cap=0)/\bX w (.slice a xs.length cap) xs:=by
 have h':=h;obtain ⟨a,cap,rfl,h1,h2,h0,h3⟩:=h;exact ⟨a,cap,rfl,h1,h2,h0,h'⟩
theorem bX.spot{w:World}{v:Value}{xs:Ints}(h:bX w v xs)(hp:0<xs.length):∃ b o cap,v= .slice (some ⟨b,o,none⟩) xs.length cap/\xs.length<=cap/\cap<=maxLen/\bX w (.slice (some ⟨b,o,none⟩) xs.length cap) xs/\∀ j,j<xs.length ->w.cell? ⟨b,o+j,none⟩=some (Value.int .i64 (xs.getD j 0)):=by
 have h':=h;obtain ⟨a,cap,rfl,h1,h2,h0,h3⟩:=h;obtain ⟨b,o,rfl,hc⟩:=h3 hp;exact ⟨b,o,cap,rfl,h1,h2,h',hc⟩
def bR(B:Nat)(w:World)(v:Value)(xs:Ints):Prop:=w.ownsRow B 3 1 v xs.length (xs.map (Value.int .i64))
theorem bR.nil(B:Nat)(w:World):bR B w (.slice none 0 0) []:=World.ownsRow_nil _ _ _ _
theorem nE(xs:Ints)(j:Nat)(hj:j<xs.length):(xs.map (Value.int .i64))[j]? =some (Value.int .i64 (xs.getD j 0)):=by
 simp [List.getD,ah hj]
theorem bR.seq{B:Nat}{w:World}{v:Value}{xs:Ints}(h:bR B w v xs):bX w v xs:=by
 have h':=h
 rcases h.2 with ⟨rfl,hn⟩|⟨g,cap,cur,rfl,hb,hg,hnc,hcm,hcs,htake⟩
 ·obtain rfl:xs=[]:=aF hn
  exact bX.nil w
 ·refine ⟨_,cap,rfl,hnc,hcm,(by simp),fun hp=>⟨g,0,rfl,fun j hj=> ?_⟩⟩
  have:=bB h' j (by omega);rw [aC,this,nE xs j hj]
theorem bR.parts{B:Nat}{w:World}{v:Value}{xs:Ints}(h:bR B w v xs):∃ a cap,v= .slice a xs.length cap/\xs.length<=cap/\cap<=maxLen/\bR B w (.slice a xs.length cap) xs/\(a=none ->cap=0):=by
 obtain ⟨a,cap,rfl,h1,h2,h0,hs⟩:=h.seq.parts;exact ⟨a,cap,rfl,h1,h2,h,h0⟩
theorem bR.lt{B:Nat}{w:World}{v:Value}{xs:Ints}(h:bR B w v xs):∀ k,v.ownBlock=some k ->B<=k/\k<w.heap.size:=World.ownsRow.lt h
theorem bR.mono{B C:Nat}{w:World}{v:Value}{xs:Ints}(h:bR B w v xs)(hc:C<=B):bR C w v xs:=by
 refine ⟨h.1,?_⟩
 rcases h.2 with hn|⟨g,cap,cur,hv,hb,hg⟩
 ·exact .inl hn
 ·exact .inr ⟨g,cap,cur,hv,by omega,hg⟩
theorem bR.below{B N:Nat}{w w':World}{v:Value}{xs:Ints}(h:bR B w v xs)(hb:Below N w w')(hN:w.heap.size<=N):bR B w' v xs:=by
 refine ⟨h.1,?_⟩
 rcases h.2 with hn|⟨g,cap,cur,hv,hb',hg,hr⟩
 ·exact .inl hn
 ·have hlt:g<w.heap.size:=(au.1 hg).1
  exact .inr ⟨g,cap,cur,hv,hb',(hb.block g (by omega)).trans hg,hr⟩
theorem bR.one(w:World)(B:Nat)(x:Int)(hB:B<=w.heap.size):bR B (w.alloc (.cells #[Value.int .i64 x] 3)) (.slice (some ⟨w.heap.size,0,none⟩) 1 1) [x]:=
 World.ownsRow_lit w #[Value.int .i64 x] 1 hB (by unfold maxLen;omega) rfl
theorem bX.one(w:World)(x:Int):bX (w.alloc (.cells #[.int .i64 x] 3)) (.slice (some ⟨w.heap.size,0,none⟩) 1 1) [x]:=
 (bR.one w w.heap.size x (aj _)).seq
def wW(w:World)(xs:Ints)(e:Ending)(w':World):Prop:=∃ v,e= .returned v/\bR w.heap.size w' v xs/\Below w.heap.size w w'
theorem Ah:(prog.info? 3).map (fun i=>(i.zero,i.size,i.bytes))=some (some (.int .i64 0),1,8):=by kernel_rfl
theorem bX.gy{w:World}{a:Option Addr}{n cap:Nat}{xs:Ints}(h:bX w (.slice a n cap) xs):xs.length=n/\n<=cap/\cap<=9223372036854775807:=by
 obtain ⟨a',cap',hv,h1,h2,-,-⟩:=h;simp only [aG] at hv
 obtain ⟨rfl,rfl,rfl⟩:=hv;exact ⟨rfl,h1,h2⟩
theorem bR.cell{B:Nat}{w:World}{g n cap:Nat}{xs:Ints}(h:bR B w (.slice (some ⟨g,0,none⟩) n cap) xs)(j:Nat)(hj:j<xs.length):w.cell? ⟨g,j,none⟩=some (Value.int .i64 (xs.getD j 0)):=by
 have hn:=h.seq.gy.1;have h':w.ownsRow B 3 1 (.slice (some ⟨g,0,none⟩) n cap) n (xs.map (Value.int .i64)):=by rw [<-hn];unfold bR at h;rw [<-hn] at h;exact h
 rw [bB h' j (by omega),nE xs j hj]
theorem bR.at{B:Nat}{w:World}{v:Value}{xs:Ints}(h:bR B w v xs)(n:Nat)(hn:xs.length=n):∃ a cap,v= .slice a n cap/\(n:Int)<=cap/\(cap:Int)<=9223372036854775807/\bR B w (.slice a n cap) xs:=by
 subst hn;obtain ⟨a,cap,rfl,h1,h2,h3,-⟩:=h.parts;have hm:maxLen=9223372036854775807:=rfl;exact ⟨a,cap,rfl,by omega,by omega,h3⟩
theorem bX.drawn{w:World}{v:Value}{xs:Ints}(h:bX w v xs)(n:Nat):bX (w.drewN n) v xs:=h.below (below_drewN (ak _ _) n)
theorem wX(xs:Ints)(k:Nat)(c:Int):(xs.set k c).map (Value.int .i64)=(xs.map (Value.int .i64)).set k (Value.int .i64 c):=by
 simp [List.map_set]
theorem gV{w:World}{ops:Array Oper}{rest:List Oper}{o:Oper}{a:Act}{Q:Exit ->Act ->World ->Prop}(hg:o.guard=none)(l:Operand)(ho:o.op=Op.makeSlice 31 l l)
  (m:Int) (n:Nat) (hl:a.eval l= .int .i64 m) (hm:m=(n:Int)) (hn:n<=16777216)
  (h:∀ w',bR w.heap.size w' (.slice (some ⟨w.heap.size,0,none⟩) n n) (List.replicate n 0) ->Below w.heap.size w w' ->wpList prog ops Q rest (a.put o.dst (.slice (some ⟨w.heap.size,0,none⟩) n n)) w'):
  wpList prog ops Q (o::rest) a w:=by
 subst hm;obtain ⟨i0,hi,hz0,hz1,hz2⟩:=info_parts Ah;refine wpList_make_row w hg l l 31 ho 3 i0 (.int .i64 0) underlying31 hi hz0 hz1 rfl .i64 .i64 n hl hl (by rw [hz2];omega) (by omega) ?_;refine h _ ?_ ((ak _ _).alloc (aj _) _);have hr:=World.ownsRow_lit (base:=w.heap.size) (e:=3) (size:=1) w (madeCells #[.int .i64 0] n) n (aj _) (by unfold maxLen;omega) (by rw [size_madeCells,Nat.mul_one]);rw [toList_madeCells_one] at hr;have e:List.replicate n (Value.int .i64 0)=(List.replicate n 0).map (Value.int .i64):=by rw [List.map_replicate]
 rw [e] at hr;unfold bR;rw [bA];exact hr
theorem bR.free{B:Nat}{w:World}{g n cap:Nat}{xs:Ints}(h:bR B w (.slice (some ⟨g,0,none⟩) n cap) xs)(j:Nat):w.frozen? ⟨g,j,none⟩=false:=by
 have hn:=h.seq.gy.1;have h':w.ownsRow B 3 1 (.slice (some ⟨g,0,none⟩) n cap) n (xs.map (Value.int .i64)):=by rw [<-hn];unfold bR at h;rw [<-hn] at h;exact h
 exact World.ownsRow.frozenAt h' j
theorem bR.set{B:Nat}{w:World}{g n cap:Nat}{xs:Ints}(h:bR B w (.slice (some ⟨g,0,none⟩) n cap) xs)(j:Nat)(x:Int):bR B (w.setCell ⟨g,j,none⟩ (.int .i64 x)) (.slice (some ⟨g,0,none⟩) n cap) (xs.set j x):=by
 have hn:=h.seq.gy.1;have h':w.ownsRow B 3 1 (.slice (some ⟨g,0,none⟩) n cap) n (xs.map (Value.int .i64)):=by rw [<-hn];unfold bR at h;rw [<-hn] at h;exact h
 have hs:=(World.ownsRow.stored h' j (Value.int .i64 x)).1;rw [<-wX] at hs;unfold bR;rw [List.length_set,hn];exact hs
theorem bR.block{B:Nat}{w:World}{g n cap:Nat}{xs:Ints}(h:bR B w (.slice (some ⟨g,0,none⟩) n cap) xs):B<=g/\g<w.heap.size:=h.lt g rfl
theorem qO{w:World}{a:Option Addr}{len cap:Nat}{zs:List Int}(h:vF .i64 w a len cap zs):
  ∃ xs:Ints,bX w (.slice a len cap) xs/\xs.length=len/\len<=cap:=by
 rcases h with ⟨rfl,rfl,rfl,rfl⟩|⟨x,rfl,hl,hm,hz,hc,hw⟩
 ·exact ⟨[],bX.nil w,rfl,aj _⟩
 ·have hlen:(zs.take len).length=len:=by rw [bn];omega
  refine ⟨zs.take len,⟨some x,cap,by rw [hlen],by omega,hm,(by simp),fun hp=> ?_⟩,hlen,hl⟩;obtain ⟨b,off,rfl,g⟩:=ints_at hc (by omega);refine ⟨b,off,rfl,fun j hj=> ?_⟩;rw [g j (by omega)];simp [List.getD,show j<len by omega]
end Go.Proofs.Ytmknpmamkjjiaaa