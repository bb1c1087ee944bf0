import Derived.Test.YtmknpmamkjjiaaaEls
import Derived.Test.YtmknpmamkjjiaaaMaths
import Derived.Laws.Cover1
import Derived.Sort.Walk0
set_option linter.unusedVariables false
namespace Go.Proofs.Ytmknpmamkjjiaaa
open Go.Proofs.Try
open Go.RowKit Plain
def bt(t:bL):ByteArray:=⟨t.toArray⟩
def tx(s:ByteArray):bL:=s.data.toList
theorem yJ(t:bL):tx (bt t)=t:=rfl
theorem zi{a b:bL}(h:bt a=bt b):a=b:=by rw [<-yJ a,h,yJ]
theorem gM(t:bL):(bt t).size=t.length:=rfl
def tv(t:bL):Value:= .string (bt t)
def dx(w:World)(v:Value)(xs:List bL):Prop:=
 ∃ a cap,v= .slice a xs.length cap/\xs.length<=cap/\cap<=maxLen/\(a=none ->cap=0)/\
  (0<xs.length ->∃ b off,a=some ⟨b,off,none⟩/\∀ j,j<xs.length ->w.cell? ⟨b,off+j,none⟩=some (tv (xs.getD j [])))
theorem dx.nil(w:World):dx w (.slice none 0 0) []:=⟨none,0,rfl,aJ _,aJ _,fun _=>rfl,fun h=>absurd h (by simp)⟩
theorem dx.below'{N:Nat}{w w':World}{v:Value}{xs:List bL}(h:dx w v xs)(hb:Below N w w')(hN:w.heap.size<=N):dx w' v xs:=by
 obtain ⟨a,cap,rfl,h1,h2,h0,h3⟩:=h;refine ⟨a,cap,rfl,h1,h2,h0,fun hp=> ?_⟩;obtain ⟨b,off,rfl,hc⟩:=h3 hp;refine ⟨b,off,rfl,fun j hj=> ?_⟩;have hlt:b<w.heap.size:=ay w ⟨b,off+j,none⟩ (hc j hj);exact (hb.cell (p:=⟨b,off+j,none⟩) (show b<N by omega)).trans (hc j hj)
theorem dx.below{w w':World}{v:Value}{xs:List bL}(h:dx w v xs)(hb:Below w.heap.size w w'):dx w' v xs:=dx.below' h hb (aj _)
theorem dx.dB{w:World}{v:Value}{xs:List bL}(h:dx w v xs)(o:Obj):dx (w.alloc o) v xs:=h.below ((ak _ _).alloc (aj _) _)
theorem dx.parts{w:World}{v:Value}{xs:List bL}(h:dx w v xs):∃ a cap,v= .slice a xs.length cap/\xs.length<=cap/\cap<=maxLen/\(a=none ->cap=0)/\dx w (.slice a xs.length cap) xs:=by
 have h':=h;obtain ⟨a,cap,rfl,h1,h2,h0,h3⟩:=h;exact ⟨a,cap,rfl,h1,h2,h0,h'⟩
theorem dx.spot{w:World}{v:Value}{xs:List bL}(h:dx w v xs)(hp:0<xs.length):∃ b o cap,v= .slice (some ⟨b,o,none⟩) xs.length cap/\xs.length<=cap/\cap<=maxLen/\dx w (.slice (some ⟨b,o,none⟩) xs.length cap) xs/\∀ j,j<xs.length ->w.cell? ⟨b,o+j,none⟩=some (tv (xs.getD j [])):=by
 have h':=h;obtain ⟨a,cap,rfl,h1,h2,h0,h3⟩:=h;obtain ⟨b,o,rfl,hc⟩:=h3 hp;exact ⟨b,o,cap,rfl,h1,h2,h',hc⟩
def bP(B:Nat)(w:World)(v:Value)(xs:List bL):Prop:=w.ownsRow B 9 1 v xs.length (xs.map tv)
theorem bP.nil(B:Nat)(w:World):bP B w (.slice none 0 0) []:=World.ownsRow_nil _ _ _ _
theorem jH(xs:List bL)(j:Nat)(hj:j<xs.length):(xs.map tv)[j]? =some (tv (xs.getD j [])):=by
 simp [List.getD,ah hj]
theorem bP.seq{B:Nat}{w:World}{v:Value}{xs:List bL}(h:bP B w v xs):dx w v xs:=by
 have h':=h
 rcases h.2 with ⟨rfl,hn⟩|⟨g,cap,cur,rfl,hb,hg,hnc,hcm,hcs,htake⟩
 ·obtain rfl:xs=[]:=aF hn
  exact dx.nil w
 ·refine ⟨_,cap,rfl,hnc,hcm,(by simp),fun hp=>⟨g,0,rfl,fun j hj=> ?_⟩⟩
  have:=bB h' j (by omega);rw [aC,this,jH xs j hj]
theorem bP.parts{B:Nat}{w:World}{v:Value}{xs:List bL}(h:bP B w v xs):∃ a cap,v= .slice a xs.length cap/\xs.length<=cap/\cap<=maxLen/\bP B w (.slice a xs.length cap) xs/\(a=none ->cap=0):=by
 obtain ⟨a,cap,rfl,h1,h2,h0,hs⟩:=h.seq.parts;exact ⟨a,cap,rfl,h1,h2,h,h0⟩
theorem bP.lt{B:Nat}{w:World}{v:Value}{xs:List bL}(h:bP B w v xs):∀ k,v.ownBlock=some k ->B<=k/\k<w.heap.size:=World.ownsRow.lt h
theorem bP.alloc{B:Nat}{w:World}{v:Value}{xs:List bL}(h:bP B w v xs)(o:Obj):bP B (w.alloc o) v xs:=World.ownsRow.alloc h o
theorem bP.mono{B C:Nat}{w:World}{v:Value}{xs:List bL}(h:bP B w v xs)(hc:C<=B):bP C w v xs:=by
 refine ⟨h.1,?_⟩
 rcases h.2 with hn|⟨g,cap,cur,hv,hb,hg⟩
 ·exact .inl hn
 ·exact .inr ⟨g,cap,cur,hv,by omega,hg⟩
theorem bP.below{B N:Nat}{w w':World}{v:Value}{xs:List bL}(h:bP B w v xs)(hb:Below N w w')(hN:w.heap.size<=N):bP B w' v xs:=by
 refine ⟨h.1,?_⟩
 rcases h.2 with hn|⟨g,cap,cur,hv,hb',hg,hr⟩
 ·exact .inl hn
 ·have hlt:g<w.heap.size:=(au.1 hg).1
  exact .inr ⟨g,cap,cur,hv,hb',(hb.block g (by omega)).trans hg,hr⟩
theorem bP.one(w:World)(B:Nat)(x:bL)(hB:B<=w.heap.size):bP B (w.alloc (.cells #[tv x] 9)) (.slice (some ⟨w.heap.size,0,none⟩) 1 1) [x]:=
 World.ownsRow_lit w #[tv x] 1 hB (by unfold maxLen;omega) rfl
theorem dx.one(w:World)(x:bL):dx (w.alloc (.cells #[tv x] 9)) (.slice (some ⟨w.heap.size,0,none⟩) 1 1) [x]:=
 (bP.one w w.heap.size x (aj _)).seq
def yI(w:World)(xs:List bL)(e:Ending)(w':World):Prop:=∃ v,e= .returned v/\bP w.heap.size w' v xs/\Below w.heap.size w w'
theorem Ad:(prog.info? 9).map (fun i=>(i.zero,i.size,i.bytes))=some (some (.string ByteArray.empty),1,16):=by kernel_rfl
theorem l8(ys:List bL):∀ u∈ys.map tv,u.oneCell'=true:=by
 intro u hu;obtain ⟨c,-,rfl⟩:=List.mem_map.1 hu
 rfl
theorem dM{w:World}{ops:Array Oper}{rest:List Oper}{o:Oper}{act:Act}{Q:Exit ->Act ->World ->Prop}(hgd:o.guard=none)(s x:Operand)
  (ho:o.op= .call {callee:= .builtin .append,args:=#[s,x],argTypes:=#[60,60]}) (B:Nat) {v u:Value} {xs ys:List bL}
  (hs:act.eval s=v) (hown:bP B w v xs) (hx:act.eval x=u) (hseq:dx w u ys) (hlen:xs.length+ys.length<=1073741824) (hbase:B<=w.heap.size)
  (h:∀ v' w',bP B w' v' (xs++ys) ->w.grownBy w' v.ownBlock ->(v'.ownBlock=v.ownBlock\/v'.ownBlock=some w.heap.size) ->wpList prog ops Q rest (act.put o.dst v') w'):wpList prog ops Q (o::rest) act w:=by
 obtain ⟨i0,hi,hz0,hz1,hz2⟩:=info_parts Ad;obtain ⟨a,cap,rfl,h1,h2,h0,h3⟩:=hseq
 cases a with
 |none=>
  obtain rfl:=h0 rfl;obtain rfl:ys=[]:=aF (by omega);refine wpList_append_own_none hgd s x 60 ho B 9 i0 1 underlying60 hi v _ _ hs hown hx (h v w ?_ (World.grownBy.refl _ _) (.inl rfl));rw [List.append_nil];exact hown
 |some ad=>
  refine wpList_append_own_at _ hgd s x 60 ho B 9 i0 (.string ByteArray.empty) 1 16 underlying60 hi hz0 hz1 hz2 rfl (by decide) v _ _ hs hown ad ys.length cap (ys.map tv) hx (by simp) ?_ (l8 _) (by unfold maxLen;omega) (by omega) hbase ?_
  ·intro j u hu
   have hj:j<ys.length:=by
    have:=(aQ.1 hu).1
    simpa using this
   obtain ⟨b,off,he,hc⟩:=h3 (by omega)
   cases he
   rw [jH ys j hj] at hu
   cases hu
   rw [Addr.add_lit];exact hc j hj
  ·intro v' w' hown' hg _ hat
   exact h v' w' (by unfold bP;rw [aP,List.map_append];exact hown') hg hat
theorem dx.gy{w:World}{a:Option Addr}{n cap:Nat}{xs:List bL}(h:dx w (.slice a n cap) xs):xs.length=n/\n<=cap/\cap<=9223372036854775807:=by
 obtain ⟨a',cap',hv,h1,h2,-,-⟩:=h;simp only [aG] at hv
 obtain ⟨rfl,rfl,rfl⟩:=hv;exact ⟨rfl,h1,h2⟩
theorem bP.cell{B:Nat}{w:World}{g n cap:Nat}{xs:List bL}(h:bP B w (.slice (some ⟨g,0,none⟩) n cap) xs)(j:Nat)(hj:j<xs.length):w.cell? ⟨g,j,none⟩=some (tv (xs.getD j [])):=by
 have hn:=h.seq.gy.1;have h':w.ownsRow B 9 1 (.slice (some ⟨g,0,none⟩) n cap) n (xs.map tv):=by rw [<-hn];unfold bP at h;rw [<-hn] at h;exact h
 rw [bB h' j (by omega),jH xs j hj]
theorem bP.at{B:Nat}{w:World}{v:Value}{xs:List bL}(h:bP B w v xs)(n:Nat)(hn:xs.length=n):∃ a cap,v= .slice a n cap/\(n:Int)<=cap/\(cap:Int)<=9223372036854775807/\bP B w (.slice a n cap) xs:=by
 subst hn;obtain ⟨a,cap,rfl,h1,h2,h3,-⟩:=h.parts;have hm:maxLen=9223372036854775807:=rfl;exact ⟨a,cap,rfl,by omega,by omega,h3⟩
theorem bP.free{B:Nat}{w:World}{g n cap:Nat}{xs:List bL}(h:bP B w (.slice (some ⟨g,0,none⟩) n cap) xs)(j:Nat):w.frozen? ⟨g,j,none⟩=false:=by
 have hn:=h.seq.gy.1;have h':w.ownsRow B 9 1 (.slice (some ⟨g,0,none⟩) n cap) n (xs.map tv):=by rw [<-hn];unfold bP at h;rw [<-hn] at h;exact h
 exact World.ownsRow.frozenAt h' j
theorem bP.block{B:Nat}{w:World}{g n cap:Nat}{xs:List bL}(h:bP B w (.slice (some ⟨g,0,none⟩) n cap) xs):B<=g/\g<w.heap.size:=h.lt g rfl
theorem uS(s:bL)(k:Nat)(hk:k<s.length)(w:World):(Instr.index 9 (.string (bt s)) (.int .i64 (k:Int))).run prog w= .ok (.int .u8 ((s.getD k 0).toNat:Int)) w:=by
 rw [run_index_string w _ _ _ _ underlying9];have hs:=gM s;rw [dif_pos (by omega)]
 congr 2
 show (((bt s).data[((k:Int)).toNat]'(by simp [bt];omega)).toNat:Int)=_
 simp [bt,List.getD,ah hk]
theorem fJ(s:bL):(bt s).toList=s:=by
 rw [ByteArray.toList_eq]
 rfl
theorem iF(s t:bL):((bt s).toList==(bt t).toList)=decide (s=t):=by rw [fJ,fJ];by_cases h:s=t<;>simp [h]
theorem oD(s t:bL):Op.bytesLess (bt s).toList (bt t).toList=decide (s<t):=by rw [fJ,fJ];exact bytesLess_eq s t
end Go.Proofs.Ytmknpmamkjjiaaa