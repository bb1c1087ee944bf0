import Derived.Test.YtfgcodcablpdcaaGreatOrUps
import Derived.Test.YtfgcodcablpdcaaGreatOrLack
set_option linter.unusedVariables false
set_option maxRecDepth 100000
set_option maxHeartbeats 64000000
namespace Go.Proofs.YtfgcodcablpdcaaGreat
open Go.Proofs.Tryz
open Go.RowKit Plain
def nums(H:List Nat):List Int:=H.map fun (n:Nat)=>(n:Int)
def rowOf(Bh:Int ->Int ->List Nat)(d:gB):List Int:=if d.pos=0 then nums (Bh d.node d.seq) else []
structure Aq(F:Nat ->Prop)(w:World)(F':Nat ->Prop)(w':World):Prop where
 but:jF F w w'
 new:∀ k,F' k ->F k\/w.heap.size<=k
theorem Aq.refl(F:Nat ->Prop)(w:World):Aq F w F w:=⟨jF.refl _ _,fun _ h=> .inl h⟩
theorem Aq.trans{F F' F'':Nat ->Prop}{a b c:World}(h:Aq F a F' b)(k:Aq F' b F'' c):Aq F a F'' c:=
 ⟨h.but.trans k.but fun x hx g=>(h.new x g).resolve_right (by omega),fun x g=>(k.new x g).elim (h.new x) fun e=> .inr (ak h.but.size e)⟩
theorem Aq.of{F:Nat ->Prop}{w w':World}(h:Below w.heap.size w w'):Aq F w F w':=⟨jF.of h,fun _ g=> .inl g⟩
structure oD(F:Nat ->Prop)(B:Nat)(w:World)(g:Nat)(l:List fI)(v:Ints)(H:List Nat)(Bh:Int ->Int ->List Nat)(lv hv rv:Value)(m:Nat)(V:gB ->Value)(hs:List Int):Prop where
 hp:kg w B g lv hv (.map (some m)) rv hs
 heap:sG hs
 perm:hs.Perm (nums H)
 list:Sq gV (fun b=>b<B) w lv l
 vec:gI B w hv v
 map:MapAt w m V
 rows:∀ d,gI B w (V d) (rowOf Bh d)
 apart:∀ d e k,(V d).ownBlock=some k ->(V e).ownBlock=some k ->d=e
 uX:∀ d k,(V d).ownBlock=some k ->rv.ownBlock≠some k
 Fg:F g
 Fm:F m
 Fr:∀ k,rv.ownBlock=some k ->F k
 FV:∀ d k,(V d).ownBlock=some k ->F k
 Flow:∀ k,F k ->B<=k/\k<w.heap.size
 size:B<=w.heap.size
 N8:∀ k,hv.ownBlock=some k ->¬ F k
def Wt(F:Nat ->Prop)(B:Nat)(w:World)(g:Nat)(l:List fI)(v:Ints)(H:List Nat)(Bh:Int ->Int ->List Nat):Prop:=∃ lv hv rv m V hs,oD F B w g l v H Bh lv hv rv m V hs
theorem oD.is{F:Nat ->Prop}{B:Nat}{w:World}{g:Nat}{l:List fI}{v:Ints}{H:List Nat}{Bh:Int ->Int ->List Nat}{lv hv rv:Value}{m:Nat}{V:gB ->Value}{hs:List Int}(h:oD F B w g l v H Bh lv hv rv m V hs):Wt F B w g l v H Bh:=⟨_,_,_,_,_,_,h⟩
section
variable {F:Nat ->Prop} {B:Nat} {w:World} {g:Nat} {l:List fI} {v:Ints} {H:List Nat} {Bh:Int ->Int ->List Nat} {lv hv rv:Value} {m:Nat} {V:gB ->Value} {hs:List Int}
theorem pK{B:Nat}{w:World}{u:Value}{xs:List Int}{m:Nat}{V:gB ->Value}(h:gI B w u xs)(hm:MapAt w m V):u.ownBlock≠some m:=by
 intro e;obtain ⟨c,fz,hk⟩:=Lib.ownsRow_kind h m e;obtain ⟨es,clock,hb,-⟩:=hm;rw [hb] at hk
 cases hk
theorem rZ{B:Nat}{w:World}{u:Value}{xs:List Int}{g:Nat}{lv hv rv mv:Value}(h:gI B w u xs)(hm:w.heap[g]? =some (Rx lv hv rv mv)):u.ownBlock≠some g:=by
 intro e;obtain ⟨c,fz,hk⟩:=Lib.ownsRow_kind h g e;rw [hm] at hk;simp only [Rx,bS,dY] at hk
 exact E8 hk.2.1
theorem oD.mg(h:oD F B w g l v H Bh lv hv rv m V hs):m≠g:=by
 rintro rfl;obtain ⟨es,clock,hb,-⟩:=h.map;rw [h.hp.box] at hb
 cases hb
theorem oD.below{w':World}(h:oD F B w g l v H Bh lv hv rv m V hs)(hb:Below w.heap.size w w'):oD F B w' g l v H Bh lv hv rv m V hs where
 hp:=h.hp.below hb
 heap:=h.heap
 perm:=h.perm
 list:=h.list.agree fun b hl=>hb.block b (ay hl h.size)
 vec:=h.vec.below hb (ah _)
 N8:=h.N8
 map:=h.map.below hb
 rows:=fun d=>(h.rows d).below hb (ah _)
 apart:=h.apart
 uX:=h.uX
 Fg:=h.Fg
 Fm:=h.Fm
 Fr:=h.Fr
 FV:=h.FV
 Flow:=fun k hk=>⟨(h.Flow k hk).1,ay (h.Flow k hk).2 hb.size⟩
 size:=ak h.size hb.size
theorem oD.Zb(h:oD F B w g l v H Bh lv hv rv m V hs):fM gL w hv v:=N9 h.vec.seq
theorem oD.heaped{w':World}{rv':Value}{hs':List Int}{H':List Nat}(h:oD F B w g l v H Bh lv hv rv m V hs)(h1:kg w' B g lv hv (.map (some m)) rv' hs')(h2:sG hs')(h3:hs'.Perm (nums H'))(ht:nU g w rv w' rv'):
  oD (fun k=>F k\/rv'.ownBlock=some k) B w' g l v H' Bh lv hv rv' m V hs'/\Aq F w (fun k=>F k\/rv'.ownBlock=some k) w':=by
 have hs:=ht.but.size;have hbF:jF F w w':=ht.but.mono fun k _ e=>e.elim (fun e=>e▸h.Fg) (h.Fr k)
 have hlt1:=h1.row.lt;refine ⟨⟨h1,h2,h3,h.list.agree fun b hl=>hbF.block b (ay hl h.size) fun f=>by have:=(h.Flow b f).1;omega,h.vec.keep fun k hk=>hbF.block k (h.vec.lt k hk).2 (h.N8 k hk),h.map.keep (ht.but.block m h.map.lt ?_),fun d=>(h.rows d).keep fun k hk=>ht.but.block k ((h.rows d).lt k hk).2 ?_,h.apart,fun d k hk e=> ?_,.inl h.Fg,.inl h.Fm,fun k e=> .inr e,fun d k e=> .inl (h.FV d k e),fun k f=> ?_,ak h.size hs,fun k hk f=>f.elim (h.N8 k hk) fun e=>(ht.own k e).elim (fun e=>h.N8 k hk (h.Fr k e)) fun e=>by have:=(h.vec.lt k hk).2;omega⟩,⟨hbF,fun k f=>f.elim .inl fun e=>(ht.own k e).elim (fun e=> .inl (h.Fr k e)) .inr⟩⟩
 ·rintro (e|e)
  ·exact h.mg e
  ·exact pK h.hp.row h.map e
 ·rintro (e|e)
  ·exact rZ (h.rows d) h.hp.box (by rw [hk,e])
  ·exact h.uX d k hk e
 ·rcases ht.own k e with e|e
  ·exact h.uX d k hk e
  ·have:=((h.rows d).lt k hk).2;omega
 ·rcases f with f|f
  ·exact ⟨(h.Flow k f).1,ay (h.Flow k f).2 hs⟩
  ·exact hlt1 k f
theorem Zc{H:List Nat}{p:Nat}{ys:List Int}(h:ys.Perm ((p:Int)::hs))(hp:hs.Perm (nums H)):ys.Perm (nums (p::H)):=h.trans (hp.cons _)
theorem oD.laid{u1 u2 u3 w':World}{d:gB}{v':Value}{p:Nat}(h:oD F B w g l v H Bh lv hv rv m V hs)(hb:Below w.heap.size w u1)(h12:jF (fun k=>k=m) u1 u2)(ho:gI B u3 v' (rowOf Bh d++[(p:Int)]))(hg:u2.grownBy u3 (V d).ownBlock)
  (hat:v'.ownBlock=(V d).ownBlock\/v'.ownBlock=some u2.heap.size) (h34:jF (fun k=>k=m) u3 w') (hm:MapAt w' m (Ef V d v')) (hd:d.pos=0):
  oD (fun k=>F k\/v'.ownBlock=some k) B w' g l v H (Oc Bh d.node d.seq p) lv hv rv m (Ef V d v') hs/\Aq F w (fun k=>F k\/v'.ownBlock=some k) w'/\∀ k,k<w.heap.size ->k≠m ->(V d).ownBlock≠some k ->w'.heap[k]? =w.heap[k]? :=by
 have s1:=hb.size;have s2:=h12.size;have s3:=hg.size;have s4:=h34.size;have hmlt:=h.map.lt;have hother:∀ k,k<w.heap.size ->k≠m ->(V d).ownBlock≠some k ->w'.heap[k]? =w.heap[k]? :=fun k hk h1 h2=>
  (h34.block k (by omega) h1).trans ((hg.block k (by omega) fun e=>h2 e.symm).trans ((h12.block k (by omega) h1).trans (hb.block k hk)))
 have hbF:jF F w w':=⟨h34.os.trans (hg.os.trans (h12.os.trans hb.os)),h34.tape.trans (hg.tape.trans (h12.tape.trans hb.tape)),h34.output.trans (hg.output.trans (h12.output.trans hb.output)),by omega,fun k hk hn=>hother k hk (fun e=>hn (e▸h.Fm)) fun e=>hn (h.FV d k e)⟩;have hrow:rowOf (Oc Bh d.node d.seq p) d=rowOf Bh d++[(p:Int)]:=by
  unfold rowOf;rw [if_pos hd,if_pos hd,xB];unfold nums;rw [List.map_append]
  rfl
 have hrow2:∀ e,e≠d ->rowOf (Oc Bh d.node d.seq p) e=rowOf Bh e:=fun e he=>by
  unfold rowOf
  by_cases c:e.pos=0
  ·rw [if_pos c,if_pos c,uw fun x=>he (yQ x.1 x.2 (c.trans hd.symm))]
  ·rw [if_neg c,if_neg c]
 have hnew:∀ k,v'.ownBlock=some k ->(V d).ownBlock=some k\/w.heap.size<=k:=fun k e=>hat.elim (fun x=> .inl (x▸e)) fun x=>by rw [x] at e;cases e;exact .inr (by omega)
 have hvd:Ef V d v' d=v':=by unfold Ef;rw [if_pos rfl]
 have hve:∀ e,e≠d ->Ef V d v' e=V e:=fun e he=>by unfold Ef;rw [if_neg he]
 have hgb:w'.heap[g]? =w.heap[g]? :=hother g h.hp.lt (fun e=>h.mg e.symm) (rZ (h.rows d) h.hp.box);have holt:=ho.lt;have hvm:v'.ownBlock≠some m:=fun e=>(hnew m e).elim (pK (h.rows d) h.map) fun x=>by omega
 refine ⟨⟨⟨hgb.trans h.hp.box,h.hp.row.keep fun k hk=>hother k (h.hp.row.lt k hk).2 (fun e=>pK h.hp.row h.map (by rw [hk,e])) fun e=>h.uX d k e hk,h.hp.low⟩,h.heap,h.perm,h.list.agree fun b hl=>hbF.block b (ay hl h.size) fun f=>by have:=(h.Flow b f).1;omega,h.vec.keep fun k hk=>hbF.block k (h.vec.lt k hk).2 (h.N8 k hk),hm,fun e=> ?_,fun e f k he hf=> ?_,fun e k he hr=> ?_,.inl h.Fg,.inl h.Fm,fun k e=> .inl (h.Fr k e),fun e k he=> ?_,fun k f=> ?_,ak h.size hbF.size,fun k hk f=>f.elim (h.N8 k hk) fun e=>(hnew k e).elim (fun e=>h.N8 k hk (h.FV d k e)) fun e=>by have:=(h.vec.lt k hk).2;omega⟩,⟨hbF,fun k f=>f.elim .inl fun e=>(hnew k e).elim (fun e=> .inl (h.FV d k e)) .inr⟩,hother⟩
 ·by_cases c:e=d
  ·subst c
   rw [hvd,hrow];exact ho.keep fun k hk=>h34.block k (holt k hk).2 fun x=>hvm (by rw [hk,x])
  ·rw [hve e c,hrow2 e c]
   exact (h.rows e).keep fun k hk=>hother k ((h.rows e).lt k hk).2 (fun x=>pK (h.rows e) h.map (by rw [hk,x])) fun x=>c (h.apart e d k hk x)
 ·by_cases c:e=d
  ·by_cases c2:f=d
   ·rw [c,c2]
   ·rw [c,hvd] at he
    rw [hve f c2] at hf
    rcases hnew k he with x|x
    ·exact absurd (h.apart f d k hf x) c2
    ·have:=((h.rows f).lt k hf).2;omega
  ·rw [hve e c] at he
   by_cases c2:f=d
   ·rw [c2,hvd] at hf
    rcases hnew k hf with x|x
    ·exact absurd (h.apart e d k he x) c
    ·have:=((h.rows e).lt k he).2;omega
   ·rw [hve f c2] at hf
    exact h.apart e f k he hf
 ·by_cases c:e=d
  ·rw [c,hvd] at he
   rcases hnew k he with x|x
   ·exact h.uX d k x hr
   ·have:=(h.hp.row.lt k hr).2;omega
  ·rw [hve e c] at he
   exact h.uX e k he hr
 ·by_cases c:e=d
  ·rw [c,hvd] at he
   exact .inr he
  ·rw [hve e c] at he
   exact .inl (h.FV e k he)
 ·rcases f with f|f
  ·exact ⟨(h.Flow k f).1,ay (h.Flow k f).2 hbF.size⟩
  ·exact ⟨(holt k f).1,ay (holt k f).2 h34.size⟩
theorem oD.heard{w':World}{hv':Value}{v':Ints}(h:oD F B w g l v H Bh lv hv rv m V hs)(hb:Below w.heap.size w w')(ho:gI w.heap.size w' hv' v'):
  oD F B (w'.setCell ⟨g,1,none⟩ hv') g l v' H Bh lv hv' rv m V hs/\Aq F w F (w'.setCell ⟨g,1,none⟩ hv'):=by
 have h':=h.below hb;have hz:(w'.setCell ⟨g,1,none⟩ hv').heap.size=w'.heap.size:=by simp [World.setCell]
 have hne:∀ k,k≠g ->(w'.setCell ⟨g,1,none⟩ hv').heap[k]? =w'.heap[k]? :=fun k e=>aN _ _ _ _ e
 have hlt:=ho.lt;have hgl:=h.hp.lt;refine ⟨⟨⟨aB _ g 1 _ _ _ h'.hp.box,h'.hp.row.keep fun k hk=>hne k fun e=>h'.hp.apart (by rw [hk,e]),h'.hp.low⟩,h'.heap,h'.perm,h'.list.agree fun b hl=>hne b fun e=>by have:=h.hp.low;omega,(ho.mono h.size).keep fun k hk=>hne k fun e=>by have:=(hlt k hk).1;omega,h'.map.keep (hne m h'.mg),fun d=>(h'.rows d).keep fun k hk=>hne k fun e=>rZ (h'.rows d) h'.hp.box (by rw [hk,e]),h'.apart,h'.uX,h'.Fg,h'.Fm,h'.Fr,h'.FV,fun k f=>by rw [hz];exact h'.Flow k f,by rw [hz];exact h'.size,fun k hk f=>by have:=(hlt k hk).1;have:=(h.Flow k f).2;omega⟩,⟨(jF.of hb).trans (jF.set (F:=F) h.Fg) fun x _ f=>f,fun k f=> .inl f⟩⟩
end
theorem zi:∀ {a b:List Nat},a.Nodup ->(∀ x∈a,x∈b) ->a.length<=b.length
 |[],_,_,_=>aL _
 |x::a,b,hn,h=>by
  have hn':=dZ.1 hn;have hx:=h x (by simp);have h1:=zi (b:=b.erase x) hn'.2 fun y hy=>(List.mem_erase_of_ne (show y≠x from fun e=>hn'.1 (by rw [<-e];exact hy))).2 (h y (by simp [hy]))
  have h2:=List.length_erase_of_mem hx;have h3:=List.length_pos_of_mem hx;rw [h2] at h1
  show a.length+1<=_
  omega
def mR(v:Ints)(V:gB ->Value)(w:World)(V':gB ->Value)(w':World):Prop:=∀ d:gB,r9 v d.node d.seq ->V' d=V d/\∀ k,(V d).ownBlock=some k ->w'.heap[k]? =w.heap[k]?
theorem mR.refl(v:Ints)(V:gB ->Value)(w:World):mR v V w V w:=fun d _=>⟨rfl,fun _ _=>rfl⟩
theorem mR.trans{v:Ints}{V V' V'':gB ->Value}{a b c:World}(h:mR v V a V' b)(k:mR v V' b V'' c):mR v V a V'' c:=fun d hd=>by
 obtain ⟨h1,h2⟩:=h d hd;obtain ⟨k1,k2⟩:=k d hd;exact ⟨k1.trans h1,fun x hx=>(k2 x (by rw [h1];exact hx)).trans (h2 x hx)⟩
theorem oD.stayB{F:Nat ->Prop}{B:Nat}{w w':World}{g:Nat}{l:List fI}{v v2:Ints}{H:List Nat}{Bh:Int ->Int ->List Nat}{lv hv rv:Value}{m:Nat}{V:gB ->Value}{hs:List Int}(h:oD F B w g l v H Bh lv hv rv m V hs)(hb:Below w.heap.size w w'):mR v2 V w V w':=
 fun d _=>⟨rfl,fun k hk=>hb.block k ((h.rows d).lt k hk).2⟩
theorem oD.stayH{F:Nat ->Prop}{B:Nat}{w w':World}{g:Nat}{l:List fI}{v v2:Ints}{H:List Nat}{Bh:Int ->Int ->List Nat}{lv hv rv rv':Value}{m:Nat}{V:gB ->Value}{hs:List Int}(h:oD F B w g l v H Bh lv hv rv m V hs)(ht:nU g w rv w' rv'):mR v2 V w V w':=
 fun d _=>⟨rfl,fun k hk=>ht.but.block k ((h.rows d).lt k hk).2 fun e=>e.elim (fun e=>rZ (h.rows d) h.hp.box (by rw [hk,e])) (h.uX d k hk)⟩
theorem oD.stayL{F:Nat ->Prop}{B:Nat}{w w':World}{g:Nat}{l:List fI}{v v2:Ints}{H:List Nat}{Bh:Int ->Int ->List Nat}{lv hv rv v':Value}{m:Nat}{V:gB ->Value}{hs:List Int}{d0:gB}(h:oD F B w g l v H Bh lv hv rv m V hs)(h0:¬ r9 v2 d0.node d0.seq)
  (ho:∀ k,k<w.heap.size ->k≠m ->(V d0).ownBlock≠some k ->w'.heap[k]? =w.heap[k]?):mR v2 V w (Ef V d0 v') w':=fun d hd=>by
 have hne:d≠d0:=fun e=>h0 (e▸hd)
 refine ⟨by unfold Ef;rw [if_neg hne],fun k hk=>ho k ((h.rows d).lt k hk).2 (fun e=>pK (h.rows d) h.map (by rw [hk,e])) fun e=>hne (h.apart d d0 k hk e)⟩
theorem Bo{l:List Nat}{n:Nat}(h:l.Nodup)(hl:∀ j∈l,j<n):l.length<=n:=by
 have:=zi h (b:=List.range n) fun x hx=>List.mem_range.2 (hl x hx)
 simpa using this
theorem Vo{w:World}{ops:Array Oper}{o:Oper}{act:Act}{K:Act ->World ->Prop}{Q:Exit ->Act ->World ->Prop}{E:Prop}(hw:Region.wanted o (yielded ops act.tmps)=true)(m x:Operand)
  (ho:o.op= .mapEntry 212 m x) {b:Nat} {V:gB ->Value} {d:gB} (hm:act.eval m= .map (some b)) (hx:act.eval x=dv d) (hM:MapAt w b V) (hd:jf d)
  (h:∀ (st:Nat) w1,MapAt w1 b V ->xC w1 b d st ->jF (fun k=>k=b) w w1 ->w1.heap.size=w.heap.size ->K (act.put o.dst (.tuple #[V d,goInt st])) w1):if Region.wanted o (yielded ops act.tmps)=true then Oper.wp prog o act w K Q else E:=by
 rw [if_pos hw];obtain ⟨st,w1,hr,h1,h2,h3,h4⟩:=hM.entry hd;unfold Oper.wp execOp;simp only [ho,Sem.run_bind,Sem.run_pure,Result.andThen_ok,hm,hx,hr]
 exact h st w1 h1 h2 h3 h4
theorem Vp{w:World}{ops:Array Oper}{o:Oper}{act:Act}{K:Act ->World ->Prop}{Q:Exit ->Act ->World ->Prop}{E:Prop}(hw:Region.wanted o (yielded ops act.tmps)=true)(m s x:Operand)
  (ho:o.op= .entryStore 212 m s x) {b st:Nat} {V:gB ->Value} {d:gB} {v:Value} (hm:act.eval m= .map (some b)) (hs:act.eval s=goInt st) (hx:act.eval x=v) (hM:MapAt w b V) (hS:xC w b d st) (hd:jf d)
  (h:∀ w1,MapAt w1 b (Ef V d v) ->jF (fun k=>k=b) w w1 ->w1.heap.size=w.heap.size ->K (act.put o.dst undef) w1):if Region.wanted o (yielded ops act.tmps)=true then Oper.wp prog o act w K Q else E:=by
 rw [if_pos hw];obtain ⟨w1,hr,h1,h2,h3⟩:=hM.store hS hd v;unfold Oper.wp execOp;simp only [ho,Sem.run_bind,Sem.run_pure,Result.andThen_ok,hm,hs,hx,hr]
 exact h w1 h1 h2 h3
structure Dp(t:fI):Prop where
 deps:t.deps.length<=1000000
 effs:t.effs.length<=1000000
 drops:∀ e∈t.effs,e.drops.length<=1000000
 ok:yD t
theorem Dp.small{t:fI}(h:Dp t):Eh t:=(i64_in h.ok.2.1).2
theorem xD{B:Nat}{w:World}{v:Value}{xs:List fI}(h:Sq gV (fun b=>b<B) w v xs)(hB:B<=w.heap.size)(hp:0<xs.length):∃ b o cap,v= .slice (some ⟨b,o,none⟩) xs.length cap/\xs.length<=cap/\cap<=9223372036854775807/\
  ∀ j,j<xs.length ->∃ da dn dc ea en ec,xU w b (o+j*4) (jr xs j) (.slice da dn dc) (.slice ea en ec)/\kN w (.agg #[.int .i64 (jr xs j).node,.int .i64 (jr xs j).seq,.slice da dn dc,.slice ea en ec]) (jr xs j):=by
 have hs:fM gV w v xs:=h.mono fun b hb=>ay hb hB
 obtain ⟨b,o,cap,e,h1,h2,-,hc⟩:=wh hs hp;refine ⟨b,o,cap,e,h1,h2,fun j hj=> ?_⟩;obtain ⟨dv,ev,ha,hd,he⟩:=hc j hj;obtain ⟨da,dc,rfl,-,-,-,hd'⟩:=hd.parts;obtain ⟨ea,ec,rfl,-,-,-,he'⟩:=he.parts;exact ⟨da,_,dc,ea,_,ec,ha,_,_,rfl,hd',he'⟩
theorem E9{l:List fI}{v:Ints}{gm:List Bool}{H Q:List Nat}{Bh:Int ->Int ->List Nat}(o:jH l v gm H Bh Q):H.length<=l.length:=Bo (dw.1 o.nd).1 fun j hj=>(o.hH j hj).1
theorem rows_len{l:List fI}{v:Ints}{gm:List Bool}{H Q:List Nat}{Bh:Int ->Int ->List Nat}(o:jH l v gm H Bh Q){n s:Int}(h:¬ r9 v n s):(Bh n s).length<=l.length:=Bo (o.ndB n s h) fun j hj=>(o.hB n s h j hj).1
theorem sj(H:List Nat):(nums H).length=H.length:=by unfold nums;simp
theorem Vq:77≠3:=by decide
theorem Zd{w w':World}{b n c:Nat}{xs:Ints}(h:gQ w (.slice (some ⟨b,0,none⟩) n c) xs)(hb:w'.heap[b]? =w.heap[b]?):gQ w' (.slice (some ⟨b,0,none⟩) n c) xs:=by
 obtain ⟨a,cap,hv,h1,h2,h0,h3⟩:=h;refine ⟨a,cap,hv,h1,h2,h0,fun hp=> ?_⟩;obtain ⟨b',off,rfl,hc⟩:=h3 hp;simp only [aC,bS,Addr.mk.injEq,and_true] at hv
 obtain ⟨⟨rfl,rfl⟩,-,-⟩:=hv;exact ⟨b,0,rfl,fun j hj=>(aQ (a:=⟨b,0+j,none⟩) hb).trans (hc j hj)⟩
theorem Jl{u w:World}{g:Nat}(h:u.heap[g]? =w.heap[g]?)(hg:g<w.heap.size):g<u.heap.size:=by
 rw [Array.getElem?_eq_getElem hg] at h;exact (aH.1 h).1
theorem st3w{w:World}{g:Nat}{z0 z1 z2:Value}{t:TypeId}(h:w.heap[g]? =some (.cells #[z0,z1,z2] t (0,0)))(a b c:Value):(((w.setCell ⟨g,0,none⟩ a).setCell ⟨g,1,none⟩ b).setCell ⟨g,2,none⟩ c).heap[g]? =some (.cells #[a,b,c] t (0,0)):=
 aB _ g 2 _ _ c (aB _ g 1 _ _ b (aB _ g 0 _ _ a h))
def WaitTo(F:Nat ->Prop)(B:Nat)(w:World)(g:Nat)(l:List fI)(v:Ints)(gm:List Bool)(Q:List Nat)(lv hv:Value)(m:Nat)(V:gB ->Value)(e:Ending)(w':World):Prop:=
 e= .returned (.tuple #[])/\∃ F' H' Bh' rv' V' hs',oD F' B w' g l v H' Bh' lv hv rv' m V' hs'/\jH l v gm H' Bh' Q/\Aq F w F' w'/\mR v V w V' w'
theorem Ry{F:Nat ->Prop}{B:Nat}{w:World}{g:Nat}{l:List fI}{v:Ints}{H:List Nat}{Bh:Int ->Int ->List Nat}{gm:List Bool}{p:Nat}{Q:List Nat}{lv hv rv:Value}{m:Nat}{V:gB ->Value}{hs:List Int}(h:oD F B w g l v H Bh lv hv rv m V hs)(ow:jH l v gm H Bh (p::Q))(hl:l.length<=1000000)(hf:∀ t∈l,Dp t)(hvl:v.length<=1000000):
  Calls prog 203 #[.pointer (some ⟨g,0,none⟩),.int .i64 p] w (WaitTo F B w g l v gm Q lv hv m V):=by
 have hp:=(ow.hQ p (by simp)).1;obtain ⟨lb,lo,lc,rfl,L1,L2,hc⟩:=xD h.list h.size (by omega);obtain ⟨da,dn,dc,ea,en,ec,TA,IT⟩:=hc p hp;have hft:=hf (jr l p) (by rw [kX hp];exact aU hp);obtain ⟨va,vc,rfl,-,-,-,SV⟩:=fM.parts (L:=gL) h.Zb;have SVI:=zH (gW SV);have HW:=zH h;have OW:=zH ow;have KL:=zH (fun u (hb:Below w.heap.size w u)=>Rz (SVI.o.below hb) (IT.below hb) hft.deps ⟨hft.ok.1,hft.ok.2.2.1⟩);have HSM:=zH hft.small;obtain ⟨⟨b0,b1,-,-⟩,-,-⟩:=h.hp.cell;have hgl:=h.hp.lt;obtain ⟨t,hT⟩:∃ t,t=jr l p:=⟨_,rfl⟩;rw [<-hT] at TA IT KL HSM hft;have WZ:=zH hT;obtain ⟨ln,hln⟩:∃ n,n=l.length:=⟨_,rfl⟩;obtain ⟨vn,hvn⟩:∃ n,n=v.length:=⟨_,rfl⟩;rw [<-hln] at b0 L1 hp;rw [<-hvn] at b1 KL;have HLN:=zH hln;have KE:Hid (∀ u,Below w.heap.size w u ->Below w.heap.size w u/\u.cell? ⟨g,0,none⟩=some (.slice (some ⟨lb,lo,none⟩) ln lc)/\u.cell? ⟨g,1,none⟩=some (.slice va vn vc)/\u.cell? ⟨lb,lo+p*4,none⟩=some (.int .i64 t.node)/\u.cell? ⟨lb,lo+p*4+1,none⟩=some (.int .i64 t.seq)/\u.cell? ⟨lb,lo+p*4+2,none⟩=some (.slice da dn dc)/\u.cell? ⟨lb,lo+p*4+3,none⟩=some (.slice ea en ec)):=zH (fun u hb=>by
  have TB:=TA.below hb TA.lt;exact ⟨hb,(hb.cell (p:=⟨g,0,none⟩) hgl).trans b0,(hb.cell (p:=⟨g,1,none⟩) hgl).trans b1,TB.c0,TB.c1,TB.c2,TB.c3⟩)
 have L3:(p:Int)<ln:=by omega
 have L4:(ln:Int)<=lc:=by omega
 have L5:(lc:Int)<=9223372036854775807:=by omega
 clear TA IT hc h ow hT hln hvn SV hft L1 L2;go_enter func203,ntmps203
 go_upto_region 0 with fail
 clear b0 b1
 go_cut [4,5] (fun s4 s5 wx=>∃ (gd:Nat) (n s:Int) (bo:Bool),s4= .pointer (some ⟨gd,0,none⟩)/\s5= .bool bo/\wx.heap[gd]? =some (.cells #[.int .i64 n,.int .i64 s,.int .i64 0] 77 (0,0))/\(bo=true ->xE v t n s/\jf ⟨n,s,0⟩)/\(bo=false ->uY v t)/\Below w.heap.size w wx)
 case first=>
  refine wp_region_held_drew (S:=fun u'=>Below w.heap.size w u'/\u'.cell? ⟨g,0,none⟩=some (.slice (some ⟨lb,lo,none⟩) ln lc)/\u'.cell? ⟨g,1,none⟩=some (.slice va vn vc)/\u'.cell? ⟨lb,lo+p*4,none⟩=some (.int .i64 t.node)/\u'.cell? ⟨lb,lo+p*4+1,none⟩=some (.int .i64 t.seq)/\u'.cell? ⟨lb,lo+p*4+2,none⟩=some (.slice da dn dc)/\u'.cell? ⟨lb,lo+p*4+3,none⟩=some (.slice ea en ec)) (by kernel_rfl) ?_ (fun hHeld=> ?_)
  ·(exact KE.o _ (aj _ _).drew)
  simp only [zS,aJ,Nat.reduceAdd]
  refine fJ 0 hHeld ?_;refine fJ 1 hHeld ?_;refine fJ 2 hHeld ?_;refine fJ 3 hHeld ?_;refine fJ 4 hHeld ?_;refine fJ 5 hHeld ?_;refine fJ 6 hHeld ?_;refine fJ 7 hHeld ?_;refine fJ 8 hHeld ?_;refine fJ 9 hHeld ?_;refine fJ 10 hHeld ?_;refine wpAnyH_ready (rs:=[11,15]) (by kernel_rfl) (by simp) ?_;refine bC rfl (fun K hK=> ?_) (bC rfl (fun K hK=> ?_) dA)
  ·go_simp
   refine (KL.o _ hHeld.1).mono ?_;rintro e s1 ⟨n,s,bo,rfl,hy,hn,hb⟩;have HY:=zH hy;have HN:=zH hn;have Z1:=zH hb.size;clear hy hn;refine hK.out _ _ (KE.o _ (iM hHeld hb)) (fun hHeld=> ?_);clear hK K hb;refine fJ 12 hHeld ?_;refine fJ 13 hHeld ?_;refine fJ 14 hHeld ?_;refine rd 15 fun K hK=> ?_
   go_simp
   have DQ:Hid ((s1.alloc (.cells #[.int .i64 0,.int .i64 0,.int .i64 0] 77)).heap[s1.heap.size]? =some (.cells #[.int .i64 0,.int .i64 0,.int .i64 0] 77 (0,0))):=zH (aM s1 _);have DW:Hid (w.heap.size<=s1.heap.size):=zH hHeld.1.size;refine hK.out _ _ (KE.o _ (hHeld.1.alloc hHeld.1.size _)) (fun hHeld=> ?_);clear hK K;generalize hD:s1.heap.size=gd at*;generalize (s1.alloc _)=s2 at*;have t0:=cell_of_row _ _ 0 _ _ _ DQ.o;have t1:=cell_of_row _ _ 1 _ _ _ DQ.o;have t2:=cell_of_row _ _ 2 _ _ _ DQ.o;have f0:=jG DQ.o 0;have f1:=jG DQ.o 1;have f2:=jG DQ.o 2;simp only [fq,eX,dL] at t0 t1 t2
   refine rd 16 fun K hK=> ?_
   go_simp
   have DS:=zH (st3w DQ.o (.int .i64 n) (.int .i64 s) (.int .i64 0));have DB:=zH (hHeld.1);refine hK.out _ _ (KE.o _ ?_) (fun hHeld=> ?_)
   ·exact ((DB.o.setCell DW.o _).setCell DW.o _).setCell DW.o _
   clear hK K t0 t1 t2 f0 f1 f2;refine fJ 17 hHeld ?_;refine wpAnyH_done (by kernel_rfl) ?_ _;have GZ:Hid (Below w.heap.size w _):=zH hHeld.1;clear hHeld;go_wp2_with fail
   go_meet
   exact ⟨gd,n,s,bo,rfl,rfl,DS.o,HY.o,HN.o,GZ.o⟩
  ·go_simp
   have DQ0:Hid ((w.drew.alloc (.cells #[.int .i64 0,.int .i64 0,.int .i64 0] 77)).heap[w.heap.size]? =some (.cells #[.int .i64 0,.int .i64 0,.int .i64 0] 77 (0,0))):=zH (aM w.drew _);refine hK.out _ _ (KE.o _ (hHeld.1.alloc hHeld.1.size _)) (fun hHeld=> ?_);clear hK K;have ZD:Hid (w.heap.size<(w.drew.alloc (.cells #[.int .i64 0,.int .i64 0,.int .i64 0] 77)).heap.size):=zH (by simp);refine rd 11 fun K hK=> ?_
   go_simp
   refine (KL.o _ hHeld.1).mono ?_;rintro e s1 ⟨n,s,bo,rfl,hy,hn,hb⟩;have HY:=zH hy;have HN:=zH hn;have Z1:=zH hb.size;clear hy hn;have DQ:Hid (s1.heap[w.heap.size]? =some (.cells #[.int .i64 0,.int .i64 0,.int .i64 0] 77 (0,0))):=zH ((hb.block _ ZD.o).trans DQ0.o);refine hK.out _ _ (KE.o _ (iM hHeld hb)) (fun hHeld=> ?_);clear hK K hb;refine fJ 12 hHeld ?_;refine fJ 13 hHeld ?_;refine fJ 14 hHeld ?_;have DW:Hid (w.heap.size<=w.heap.size):=zH (ah _);have t0:=cell_of_row _ _ 0 _ _ _ DQ.o;have t1:=cell_of_row _ _ 1 _ _ _ DQ.o;have t2:=cell_of_row _ _ 2 _ _ _ DQ.o;have f0:=jG DQ.o 0;have f1:=jG DQ.o 1;have f2:=jG DQ.o 2;simp only [fq,eX,dL] at t0 t1 t2
   refine rd 16 fun K hK=> ?_
   go_simp
   have DS:=zH (st3w DQ.o (.int .i64 n) (.int .i64 s) (.int .i64 0));have DB:=zH (hHeld.1);refine hK.out _ _ (KE.o _ ?_) (fun hHeld=> ?_)
   ·exact ((DB.o.setCell DW.o _).setCell DW.o _).setCell DW.o _
   clear hK K t0 t1 t2 f0 f1 f2;refine fJ 17 hHeld ?_;refine wpAnyH_done (by kernel_rfl) ?_ _;have GZ:Hid (Below w.heap.size w _):=zH hHeld.1;clear hHeld;go_wp2_with fail
   go_meet
   exact ⟨w.heap.size,n,s,bo,rfl,rfl,DS.o,HY.o,HN.o,GZ.o⟩
 case rest=>
  obtain ⟨gd,n,s,bo,rfl,rfl,hd,hy,hn,hb⟩:=hcut;have H1:=zH (HW.o.below hb);have GB:=zH hb;have DQ:=zH hd;have HLE:Hid (H.length<=l.length):=zH (E9 OW.o)
  cases bo
  ·have HC:=zH (hn rfl)
   have KP:=zH (Ze H1.o.hp H1.o.heap H1.o.size (p:Int) (by rw [H1.o.perm.length_eq,sj];have:=HLE.o;omega));clear hd hy hn hb;go_wp2_with (go_at_call 257;refine KP.o.mono ?_;rintro e w2 ⟨rfl,rv2,ys,h2,i2,p2,t2⟩;have R:=zH (H1.o.heaped h2 i2 (Zc p2 H1.o.perm) t2);have RS:=zH ((HW.o.stayB (v2:=v) GB.o).trans (H1.o.stayH t2));clear h2 i2 p2 t2)
   go_end0
   exact ⟨rfl,_,p::H,Bh,_,_,_,R.o.1,OW.o.push (by rw [<-WZ.o];exact HC.o),(Aq.of GB.o).trans R.o.2,RS.o⟩
  ·obtain ⟨hy1,hy2⟩:=hy rfl
   have HY1:=zH hy1;have HY2:=zH hy2;have Gg:Hid ((rowOf Bh ⟨n,s,0⟩).length<=l.length):=zH (by
    unfold rowOf;rw [if_pos rfl,sj];exact rows_len OW.o hy1.lacks)
   obtain ⟨⟨-,-,-,b3⟩,-,-⟩:=H1.o.hp.cell;have q0:=cell_of_row _ _ 0 _ _ _ hd;have q1:=cell_of_row _ _ 1 _ _ _ hd;have q2:=cell_of_row _ _ 2 _ _ _ hd;simp only [fq,eX,dL] at q0 q1 q2
   have hgw:g<wc.heap.size:=H1.o.hp.lt;have hdw:gd<wc.heap.size:=(aH.1 hd).1;have KS:Hid (∀ u:World,u.heap[g]? =wc.heap[g]? ->u.heap[gd]? =wc.heap[gd]? ->u.cell? ⟨g,3,none⟩=some (.map (some m))/\u.cell? ⟨gd,0,none⟩=some (.int .i64 n)/\u.cell? ⟨gd,1,none⟩=some (.int .i64 s)/\u.cell? ⟨gd,2,none⟩=some (.int .i64 0)):=zH (fun u h1 h2=>⟨(aQ (a:=⟨g,3,none⟩) h1).trans b3,(aQ (a:=⟨gd,0,none⟩) h2).trans q0,(aQ (a:=⟨gd,1,none⟩) h2).trans q1,(aQ (a:=⟨gd,2,none⟩) h2).trans q2⟩);have NG:Hid (g≠m):=zH (fun e=>H1.o.mg e.symm);have ND:Hid (gd≠m):=zH (fun e=>by
    obtain ⟨es,clock,hb',-⟩:=H1.o.map;rw [<-e,hd] at hb'
    cases hb')
   have RG:Hid ((V ⟨n,s,0⟩).ownBlock≠some g):=zH (rZ (H1.o.rows _) H1.o.hp.box);have RD:Hid ((V ⟨n,s,0⟩).ownBlock≠some gd):=zH (fun e=>by
    obtain ⟨c,fz,hk⟩:=Lib.ownsRow_kind (H1.o.rows ⟨n,s,0⟩) gd e;rw [hd] at hk;simp only [bS,dY] at hk
    exact Vq hk.2.1)
   have RM:Hid ((V ⟨n,s,0⟩).ownBlock≠some m):=zH (pK (H1.o.rows _) H1.o.map);have GW:=zH hgw;have DW:=zH hdw;clear hd hy hn hb hy1 hy2 b3 q0 q1 q2 hgw hdw;go_wp2_with fail
   refine wp_region_held_drew (S:=fun u'=>u'.cell? ⟨g,3,none⟩=some (.map (some m))/\u'.cell? ⟨gd,0,none⟩=some (.int .i64 n)/\u'.cell? ⟨gd,1,none⟩=some (.int .i64 s)/\u'.cell? ⟨gd,2,none⟩=some (.int .i64 0)) (by kernel_rfl) ?_ (fun hHeld=> ?_)
   ·(exact KS.o _ rfl rfl)
   simp only [zS,aJ,Nat.reduceAdd]
   refine fJ 0 hHeld ?_;refine fJ 1 hHeld ?_;refine fJ 2 hHeld ?_;refine fJ 3 hHeld ?_;refine fJ 4 hHeld ?_;refine fJ 5 hHeld ?_;have HA:Hid (Below wc.heap.size wc (wc.drew.alloc (.cells #[.int .i64 p] 3))):=zH ((aj _ _).drew.alloc (ah _) _);have M1:=zH (H1.o.map.below HA.o);have O1:=zH ((H1.o.rows ⟨n,s,0⟩).below HA.o (ah _));have S1:Hid (gQ (wc.drew.alloc (.cells #[.int .i64 p] 3)) (.slice (some ⟨wc.heap.size,0,none⟩) 1 1) [(p:Int)]):=zH (gQ.one wc.drew (p:Int));have Z1:Hid (wc.heap.size<(wc.drew.alloc (.cells #[.int .i64 p] 3)).heap.size):=zH (by simp);refine rd 6 fun K hK=> ?_
   go_simp
   refine hK.out _ _ (KS.o _ (HA.o.block _ GW.o) (HA.o.block _ DW.o)) (fun hHeld=> ?_);clear hK K;refine rd 7 fun K hK=> ?_
   refine Vo (by rfl) (.tmp 25) (.tmp 26) rfl (b:=m) (V:=V) (d:=⟨n,s,0⟩) rfl rfl M1.o HY2.o ?_;intro st u2 hm2 hs2 hb2 hz2;have M2:=zH hm2;have S2:=zH hs2;have B2:=zH hb2;have Z2:=zH hz2;have G2:Hid (u2.heap[g]? =wc.heap[g]?):=zH ((hb2.block g (Nat.lt_trans GW.o Z1.o) NG.o).trans (HA.o.block _ GW.o));have D2:Hid (u2.heap[gd]? =wc.heap[gd]?):=zH ((hb2.block gd (Nat.lt_trans DW.o Z1.o) ND.o).trans (HA.o.block _ DW.o));have O2:Hid (gI B u2 (V ⟨n,s,0⟩) (rowOf Bh ⟨n,s,0⟩)):=zH (O1.o.keep fun k hk=>hb2.block k (O1.o.lt k hk).2 fun e=>RM.o (by rw [hk,show k=m from e]));have L2:Hid (gQ u2 (.slice (some ⟨wc.heap.size,0,none⟩) 1 1) [(p:Int)]):=zH (Zd S1.o (hb2.block _ Z1.o (fun e=>by have:=H1.o.map.lt;omega)));clear hm2 hs2 hb2 hz2;refine hK.out _ _ (KS.o _ G2.o D2.o) (fun hHeld=> ?_);clear hK K;refine fJ 8 hHeld ?_;refine fJ 10 hHeld ?_;refine rd 9 fun K hK=> ?_
   refine wu 24 underlying24 (by rfl) (.tmp 27) (.tmp 29) rfl B rfl O2.o rfl L2.o (by have:=Gg.o;simp;omega) (ak H1.o.size (ak (aT Z1.o) (dR Z2.o.symm))) ?_;intro v3 u3 ho3 hg3 hat3;have O3:=zH ho3;have X3:=zH hg3;have T3:=zH hat3;have G3:Hid (u3.heap[g]? =wc.heap[g]?):=zH ((hg3.block g (Nat.lt_of_lt_of_eq (Nat.lt_trans GW.o Z1.o) Z2.o.symm) (fun e=>RG.o e.symm)).trans G2.o);have D3:Hid (u3.heap[gd]? =wc.heap[gd]?):=zH ((hg3.block gd (Nat.lt_of_lt_of_eq (Nat.lt_trans DW.o Z1.o) Z2.o.symm) (fun e=>RD.o e.symm)).trans D2.o);have E3:Hid (u3.heap[m]? =u2.heap[m]?):=zH (hg3.block m M2.o.lt (fun e=>RM.o e.symm));have M3:=zH (M2.o.keep E3.o);have S3:=zH (S2.o.keep E3.o);clear ho3 hg3 hat3;refine hK.out _ _ (KS.o _ G3.o D3.o) (fun hHeld=> ?_);clear hK K;refine rd 11 fun K hK=> ?_
   refine Vp (by rfl) (.tmp 25) (.tmp 32) (.tmp 31) rfl (b:=m) (V:=V) (d:=⟨n,s,0⟩) rfl rfl rfl M3.o S3.o HY2.o ?_;intro u4 hm4 hb4 hz4;have R:=zH (oD.laid H1.o HA.o B2.o O3.o X3.o T3.o hb4 hm4 rfl);have GZ:=zH ((hb4.block g (Jl G3.o GW.o) NG.o).trans G3.o);have DZ:=zH ((hb4.block gd (Jl D3.o DW.o) ND.o).trans D3.o);clear hm4 hb4 hz4;refine hK.out _ _ (KS.o _ GZ.o DZ.o) (fun hHeld=> ?_);clear hK K;refine wpAnyH_done (by kernel_rfl) ?_ _;clear hHeld;go_wp2_with fail
   (try simp only [Exit.inBlock,Exit.then])
   refine bodyPost_ret (results_none rfl _ _ _) rfl ?_;exact ⟨rfl,_,H,Oc Bh n s p,_,_,_,R.o.1,OW.o.lay (by rw [<-WZ.o];exact HSM.o) (by rw [<-WZ.o];exact HY1.o),(Aq.of GB.o).trans R.o.2.1,(HW.o.stayB (v2:=v) GB.o).trans (H1.o.stayL (d0:=⟨n,s,0⟩) HY1.o.lacks R.o.2.2)⟩
end Go.Proofs.YtfgcodcablpdcaaGreat