import Derived.Test.YtfgcodcablpdcaaGreatItem
import Derived.DeepKeys5
import Derived.Shelf.Abstract
import Derived.Test.YtfgcodcablpdcaaGreatOrHps
import Derived.WideKeyEntry
set_option linter.unusedVariables false
namespace Go.Proofs.YtfgcodcablpdcaaGreat
open Go.Proofs.Tryz
open Go.RowKit Plain
theorem j5{w W W':World}{row row':Option Nat}(h:w.grownBy W row)(g:W.grownBy W' row')(hr:∀ j,row'=some j ->row=some j\/w.heap.size<=j):w.grownBy W' row:=
 ⟨g.os.trans h.os,g.tape.trans h.tape,g.output.trans h.output,ak h.size g.size,fun k hk hne=>(g.block k (ay hk h.size) (fun e=>by
  rcases hr k e.symm with e2|e2
  ·exact hne e2.symm
  ·omega)).trans (h.block k hk hne)⟩
theorem jZ{w W W':World}{row:Option Nat}(h:w.grownBy W row)(g:Below w.heap.size W W'):w.grownBy W' row:=
 ⟨g.os.trans h.os,g.tape.trans h.tape,g.output.trans h.output,ak h.size g.size,fun k hk hne=>(g.block k hk).trans (h.block k hk hne)⟩
theorem rT{w W:World}{row:Option Nat}(h:w.grownBy W row)(o:Obj):w.grownBy (W.alloc o) row:=jZ h ((aj w.heap.size W).alloc h.size o)
theorem II{w W:World}(h:w.grownBy W none):Below w.heap.size w W:=⟨h.os,h.tape,h.output,h.size,fun k hk=>h.block k hk (by simp)⟩
theorem tQ{w W:World}{row:Option Nat}(h:Below w.heap.size w W):w.grownBy W row:=jZ (bV w row) h
theorem kL{B:Nat}{w W:World}{m:Nat}(h:w.grownBy W (some m))(hB:B<=w.heap.size)(hm:B<=m):Below B w W:=⟨h.os,h.tape,h.output,h.size,fun k hk=>h.block k (by omega) (fun e=>by cases e;omega)⟩
variable {α:Type} {L:El α}
theorem gy.kept{B:Nat}{w w':World}{row:Option Nat}{v:Value}{xs:List α}(hf:Flat L)(h:gy L B w v xs)(hg:w.grownBy w' row)(hr:∀ j,row=some j ->j<B):gy L B w' v xs:=by
 obtain ⟨vals,ho,hrows⟩:=h;refine ⟨vals,⟨ho.1,?_⟩,⟨hrows.1,fun j x hj=>hf (hrows.2 j x hj)⟩⟩
 rcases ho.2 with hn|⟨g,cap,cur,hv,hb,hgc,hr'⟩
 ·exact .inl hn
 ·have hlt:g<w.heap.size:=(aH.1 hgc).1
  exact .inr ⟨g,cap,cur,hv,hb,(hg.block g hlt (fun e=>by have:=hr g e.symm;omega)).trans hgc,hr'⟩
def Old(L:El α)(row:Option Nat)(B:Nat)(w:World)(v:Value)(xs:List α):Prop:=Sq L (fun b=>b<B/\some b≠row) w v xs
theorem Old.kept{row:Option Nat}{w w':World}{v:Value}{xs:List α}(h:Old L row w.heap.size w v xs)(hg:w.grownBy w' row):Old L row w.heap.size w' v xs:=Sq.agree h fun b hb=>hg.block b hb.1 hb.2
theorem Old.seq{row:Option Nat}{B:Nat}{w:World}{v:Value}{xs:List α}(h:Old L row B w v xs)(hB:B<=w.heap.size):fM L w v xs:=h.mono fun b hb=>ay hb.1 hB
theorem fM.old{w:World}{v:Value}{xs:List α}(h:fM L w v xs):Old L none w.heap.size w v xs:=h.mono fun b hb=>⟨hb,by simp⟩
variable {α:Type} {L:El α}
def iO(J:Nat ->Prop)(L:El α)(B:Nat)(w:World)(v:Value)(xs:List α):Prop:=∃ vals,w.ownsRow B L.E L.k v xs.length vals/\Rows L (fun b=>J b/\b<w.heap.size/\v.ownBlock≠some b) w vals xs
theorem iO.own{J:Nat ->Prop}{B:Nat}{w:World}{v:Value}{xs:List α}(h:iO J L B w v xs):gy L B w v xs:=by
 obtain ⟨vals,ho,hr⟩:=h;exact ⟨vals,ho,hr.mono fun b hb=>hb.2⟩
theorem iO.nil(J:Nat ->Prop)(B:Nat)(w:World):iO J L B w (.slice none 0 0) []:=⟨[],World.ownsRow_nil _ _ _ _,Rows.nil _ _⟩
theorem iO.lt{J:Nat ->Prop}{B:Nat}{w:World}{v:Value}{xs:List α}(h:iO J L B w v xs):∀ k,v.ownBlock=some k ->B<=k/\k<w.heap.size:=h.own.lt
theorem iO.at{J:Nat ->Prop}{B:Nat}{w:World}{v:Value}{xs:List α}(h:iO J L B w v xs)(n:Nat)(hn:xs.length=n):∃ a cap,v= .slice a n cap/\(n:Int)<=cap/\(cap:Int)<=9223372036854775807/\iO J L B w (.slice a n cap) xs:=by
 obtain ⟨a,cap,rfl,h1,h2,-⟩:=h.own.at n hn;exact ⟨a,cap,rfl,h1,h2,h⟩
theorem iO.mono{J:Nat ->Prop}{B C:Nat}{w:World}{v:Value}{xs:List α}(h:iO J L B w v xs)(hc:C<=B):iO J L C w v xs:=by
 obtain ⟨vals,ho,hr⟩:=h;refine ⟨vals,⟨ho.1,?_⟩,hr⟩
 rcases ho.2 with hn|⟨g,cap,cur,hv,hb,hg⟩
 ·exact .inl hn
 ·exact .inr ⟨g,cap,cur,hv,by omega,hg⟩
theorem iO.imp{J J':Nat ->Prop}{B:Nat}{w:World}{v:Value}{xs:List α}(h:iO J L B w v xs)(hj:∀ b,J b ->J' b):iO J' L B w v xs:=by
 obtain ⟨vals,ho,hr⟩:=h;exact ⟨vals,ho,hr.mono fun b hb=>⟨hj b hb.1,hb.2⟩⟩
theorem iO.kept{J:Nat ->Prop}{B:Nat}{w w':World}{v:Value}{xs:List α}(h:iO J L B w v xs)(hs:w.heap.size<=w'.heap.size)(hb:∀ b,b<w.heap.size ->(J b\/B<=b) ->w'.heap[b]? =w.heap[b]?):iO J L B w' v xs:=by
 obtain ⟨vals,ho,hr⟩:=h;refine ⟨vals,⟨ho.1,?_⟩,(hr.agree fun b hq=>hb b hq.2.1 (.inl hq.1)).mono fun b hq=>⟨hq.1,ay hq.2.1 hs,hq.2.2⟩⟩
 rcases ho.2 with hn|⟨g,cap,cur,hv,hb',hg,hr'⟩
 ·exact .inl hn
 ·have hlt:g<w.heap.size:=(aH.1 hg).1
  exact .inr ⟨g,cap,cur,hv,hb',(hb g hlt (.inr hb')).trans hg,hr'⟩
theorem iO.below{J:Nat ->Prop}{B N:Nat}{w w':World}{v:Value}{xs:List α}(h:iO J L B w v xs)(hb:Below N w w')(hN:w.heap.size<=N):iO J L B w' v xs:=h.kept hb.size fun b hl _=>hb.block b (ay hl hN)
theorem iO.alloc{J:Nat ->Prop}{B:Nat}{w:World}{v:Value}{xs:List α}(h:iO J L B w v xs)(o:Obj):iO J L B (w.alloc o) v xs:=h.below (zB w o) (ah _)
theorem iO.sq{J:Nat ->Prop}{B:Nat}{w:World}{v:Value}{xs:List α}(h:iO J L B w v xs)(hj:∀ b,B<=b ->b<w.heap.size ->J b):Sq L (fun b=>J b/\b<w.heap.size) w v xs:=by
 have hlt:=h.lt;obtain ⟨vals,ho,hr⟩:=h;have hr':Rows L (fun b=>J b/\b<w.heap.size) w vals xs:=hr.mono fun b hb=>⟨hb.1,hb.2.1⟩
 rcases ho.2 with ⟨rfl,hn⟩|⟨g,cap,cur,rfl,hb,hg,hnc,hcm,hcs,htake⟩
 ·refine ⟨none,0,vals,by rw [hn],by omega,aL _,fun _=>rfl,hr',fun hp=>absurd hp (by omega)⟩
 ·refine ⟨_,cap,vals,rfl,hnc,hcm,(by simp),hr',fun hp=>⟨g,0,rfl,⟨hj g (hlt g rfl).1 (hlt g rfl).2,(hlt g rfl).2⟩,fun i u hi=> ?_⟩⟩
  have hil:i<xs.length*L.k:=by rw [<-hr.1];exact (aP.1 hi).1
  rw [aJ,bI ho i hil,hi]
theorem Jv{w:World}(J:Nat ->Prop)(B:Nat)(ty:TypeId){v u:Value}{xs ys:List α}(hown:iO J L B w v xs){Q:Nat ->Prop}(hseq:Sq L Q w u ys)
  (hI:∀ vs x,L.R Q w vs x ->L.R (fun b=>J b/\b<w.heap.size/\v.ownBlock≠some b) w vs x) (hlen:xs.length+ys.length<=1073741824) (hbase:B<=w.heap.size):
  ∃ v' w',(Builtin.append_ #[L.S,L.S] ty #[v,u]).run prog w= .ok v' w'/\iO J L B w' v' (xs++ys)/\w.grownBy w' v.ownBlock/\(v'.ownBlock=v.ownBlock\/v'.ownBlock=some w.heap.size):=by
 obtain ⟨i0,hi,hz0,hz1,hz2⟩:=Co L;have hlt:=hown.lt;obtain ⟨vals,ho,hr⟩:=hown;obtain ⟨a,cap,news,rfl,h1,h2,h0,hn,h3⟩:=hseq;have hn':Rows L (fun b=>J b/\b<w.heap.size/\v.ownBlock≠some b) w news ys:=⟨hn.1,fun j x hj=>hI _ _ (hn.2 j x hj)⟩;have hsm:=L.small
 cases a with
 |none=>
  obtain rfl:=h0 rfl;obtain rfl:ys=[]:=aK (by omega);refine ⟨v,w,run_append_owned_none (P:=prog) (w:=w) B L.S ty L.E i0 L.k L.und hi v _ _ ho,?_,bV _ _,.inl rfl⟩;rw [aV];exact ⟨vals,ho,hr⟩
 |some ad=>
  have hbytes:(xs.length+ys.length)*L.bytes<=140737488355328:=by
   have:=Nat.mul_le_mul hlen hsm;omega
  obtain ⟨v',w',hrun,ho',hg,-,hat⟩:=run_append_own_at (P:=prog) w B L.S ty L.E i0 L.zero L.k L.bytes L.und hi hz0 hz1 hz2 L.tV L.pos v _ _ ho ad ys.length cap news hn.1 (fun j u hu=>by
    have hp:0<ys.length:=by
     have h:=(aP.1 hu).1;rw [hn.1] at h
     rcases Nat.eq_zero_or_pos ys.length with e|e
     ·rw [e,Nat.zero_mul] at h;omega
     ·exact e
    obtain ⟨b,off,he,hc⟩:=h3 hp
    cases he
    rw [Addr.add_lit];exact hc.2 j u hu) (Rows.cells hn) (by unfold maxLen;omega) hbytes hbase
  refine ⟨v',w',hrun,⟨vals++news,by rw [aA];exact ho',?_⟩,hg,hat⟩;refine (((hr.append hn').agree fun b hq=>hg.block b hq.2.1 fun e=>hq.2.2 e.symm).mono fun b hq=>⟨hq.1,ay hq.2.1 hg.size,?_⟩)
  rcases hat with e|e
  ·rw [e];exact hq.2.2
  ·rw [e]
   intro e2;have:=hq.2.1
   cases e2
   omega
theorem kE{w:World}{ops:Array Oper}{rest:List Oper}{o:Oper}{act:Act}{Q:Exit ->Act ->World ->Prop}(J:Nat ->Prop)(L:El α)(hgd:o.guard=none)(s x:Operand)
  (ho:o.op= .call {callee:= .builtin .append,args:=#[s,x],argTypes:=#[L.S,L.S]}) (B:Nat) {v u:Value} {xs ys:List α}
  (hs:act.eval s=v) (hown:iO J L B w v xs) (hx:act.eval x=u) {K:Nat ->Prop} (hseq:Sq L K w u ys) (hI:∀ vs x,L.R K w vs x ->L.R (fun b=>J b/\b<w.heap.size/\v.ownBlock≠some b) w vs x) (hlen:xs.length+ys.length<=1073741824) (hbase:B<=w.heap.size)
  (h:∀ v' w',iO J L B w' v' (xs++ys) ->w.grownBy w' v.ownBlock ->(v'.ownBlock=v.ownBlock\/v'.ownBlock=some w.heap.size) ->wpList prog ops Q rest (act.put o.dst v') w'):wpList prog ops Q (o::rest) act w:=by
 refine wpList_plain hgd fun K hK=> ?_
 obtain ⟨v',w',hr,h2,h3,h4⟩:=Jv J B o.type hown hseq hI hlen hbase;unfold Oper.wp execOp;simp only [ho,resolve,invoke,builtin,Sem.run_bind,Sem.run_pure,Result.andThen_ok,List.map_toArray,List.map_cons,List.map_nil,hs,hx,hr]
 exact hK _ _ (h v' w' h2 h3 h4)
end Go.Proofs.YtfgcodcablpdcaaGreat
set_option maxRecDepth 100000
set_option maxHeartbeats 64000000
namespace Go.Proofs.YtfgcodcablpdcaaGreat
open Go.Proofs.Tryz
open Go.RowKit Plain Go.Maps
set_option maxRecDepth 100000
theorem laidOut:laidOutB prog=true:=by kernel_rfl
theorem rowDot:77<prog.types.size:=by decide+kernel
theorem Xd:(match prog.underlying 77 with|some (.array _ _)|some (.struct _)=>true|_=>false)=true:=by rw [underlying77]
theorem keyDot:prog.keyTypeAt (prog.types.size+1) 77=true:=by kernel_rfl
theorem nM:Keyed prog 77:=Keyed.of_law (deep_law_laid laidOut (m:=2) (by omega) rowDot (by kernel_rfl) Xd)
theorem shut_dot{H:Type}{enc:TypeId×Value ->H}{W:World}{base:Nat}{sp:Nat ->Bool}{held:Bool}{d:gB}(h:jf d):
  DataW.Trod enc prog W base sp held 77 (dv d) (.agg [.lit (.int .i64 d.node),.lit (.int .i64 d.seq),.lit (.int .i64 d.pos)]) []:=by
 obtain ⟨h1,h2,h3⟩:=h;refine ⟨2,?_⟩
 show DataW.trod enc prog W base sp held (1+1) 77 [.int .i64 d.node,.int .i64 d.seq,.int .i64 d.pos]=_
 rw [DataW.trod_step];unfold DataW.trodStep;have e1:prog.cellsOf 3=1:=by kernel_rfl
 simp [underlying77,underlying3,tX,e1,DataW.trod,h1,h2,h3]
def kd(d:gB):Lit:=(DataW.agg [.lit (.int .i64 d.node),.lit (.int .i64 d.seq),.lit (.int .i64 d.pos)]:DataW Unit).asKey
theorem kS{d:gB}(h:jf d):keyOf prog 77 (dv d)=some (kd d):=
 (keyOf_asKey (P:=prog) (H:=Unit) (enc:=fun _=>()) (w:=default) (base:=0) (sp:=fun _=>true) (held:=true) keyDot Xd (v:=dv d) (by
  unfold Value.formed dv;rw [underlying77,tX]
  rfl) (shut_dot h)).1
theorem Om{a b:gB}(h:dv a=dv b):a=b:=by
 unfold dv at h;simp only [Value.agg.injEq,Array.mk.injEq,List.cons.injEq,Value.int.injEq,true_and,and_true] at h
 exact yQ h.1 h.2.1 h.2.2
theorem kd_inj{a b:gB}(ha:jf a)(hb:jf b)(h:kd a=kd b):a=b:=by
 have h1:=kS ha;rw [h] at h1;exact Om (nM.inj h1 (kS hb))
theorem kd_key{a:gB}(ha:jf a):WideAt.IsKeyLit (kd a):=nM.key (kS ha)
theorem Sd(ds:List gB)(a d:gB):mH (ds++[a]) d=(mH ds d||decide (a=d)):=by
 unfold mH;rw [List.any_append];simp
def kW(w:World)(b:Nat)(ds:List gB):Prop:=∃ (D:DataW Unit) (n:Nat),n<=ds.length/\w.ownsMap prog 77 unitElem b n D/\∀ d,jf d ->Maps.has D (kd d)=mH ds d
theorem kW.lt{w:World}{b:Nat}{ds:List gB}(h:kW w b ds):b<w.heap.size:=by
 obtain ⟨D,n,-,ho,-⟩:=h;exact ho.lt
theorem kW.made(w:World):kW (w.alloc (.map #[] 0)) w.heap.size []:=⟨.map [],0,ah _,World.ownsMap_made _ _ _ _,fun d _=>rfl⟩
theorem kW.kept{w w':World}{row:Option Nat}{b:Nat}{ds:List gB}(h:kW w b ds)(hg:w.grownBy w' row)(hr:some b≠row):kW w' b ds:=by
 obtain ⟨D,n,hn,ho,hh⟩:=h;exact ⟨D,n,hn,ho.kept hg hr,hh⟩
theorem kW.below{w w':World}{B b:Nat}{ds:List gB}(h:kW w b ds)(hb:Below B w w')(hB:b<B):kW w' b ds:=by
 obtain ⟨D,n,hn,ho,hh⟩:=h;obtain ⟨es,clock,hblk,r⟩:=ho;exact ⟨D,n,hn,⟨es,clock,(hb.block b hB).trans hblk,r⟩,hh⟩
theorem kW.alloc{w:World}{b:Nat}{ds:List gB}(h:kW w b ds)(o:Obj):kW (w.alloc o) b ds:=h.kept (World.grownBy_alloc w o none) (by simp)
theorem kW.put{w':World}{b n:Nat}{ds:List gB}{D:DataW Unit}{a:gB}(ha:jf a)(hn:n<=ds.length)(hD:IsMap D)(hh:∀ d,jf d ->Maps.has D (kd d)=mH ds d)
  (ho:w'.ownsMap prog 77 unitElem b (n+1) (D.put (kd a) (.agg []))):kW w' b (ds++[a]):=by
 refine ⟨_,n+1,by rw [aA];simp;omega,ho,fun d hd=> ?_⟩;rw [Sd]
 by_cases e:a=d
 ·subst e
  rw [has_put_same hD (kd_key ha),aI rfl,Bool.or_true]
 ·rw [has_put_other (fun k=>e (kd_inj ha hd k.symm)),hh d hd,aF e,Bool.or_false]
theorem Io(w:World):(zeroValue 176).run prog w= .ok (.agg #[]) w:=by kernel_rfl
def rC(x:fK):Bool:=decide (x.key.length<=300)&&(decide (x.field.length<=300)&&decide (x.elem.length<=300))
def qG(xs:List fK):Bool:=decide (xs.length<=60)&&xs.all rC
theorem AV{x:fK}:rC x=true↔x.key.length<=300/\x.field.length<=300/\x.elem.length<=300:=by
 unfold rC;rw [aD,aD,decide_eq_true_iff,decide_eq_true_iff,decide_eq_true_iff]
theorem wV{xs:List fK}:qG xs=true↔xs.length<=60/\∀ x∈xs,rC x=true:=by
 unfold qG;rw [aD,decide_eq_true_iff,aR]
theorem mem_def{α:Type}[Inhabited α]{xs:List α}{j:Nat}(hj:j<xs.length):xs.getD j default∈xs:=bD (getD_at hj)
theorem Zz{xs:List fK}{k:Nat}(hk:k<xs.length)(h:rC (xs.getD k default)=false):qG xs=false:=by
 cases e:qG xs with
 |false=>rfl
 |true=>
  have:=(wV.1 e).2 _ (mem_def hk);rw [h] at this;exact absurd this (by decide)
theorem Vz{xs:List fK}(hl:xs.length<=60)(h:∀ j,j<xs.length ->rC (xs.getD j default)=true):qG xs=true:=wV.2 ⟨hl,fun x hx=>by
 obtain ⟨j,hj,rfl⟩:=bF hx;have:=h j hj
 rwa [show xs.getD j default=xs[j] by simp [List.getD,List.getElem?_eq_getElem hj]] at this⟩
theorem Sg{xs:List fK}(hl:¬ xs.length<=60):qG xs=false:=by
 cases e:qG xs with
 |false=>rfl
 |true=>exact absurd (wV.1 e).1 hl
theorem Si{v:Value}{xs:List fK}{w:World}(hv:fM gG w v xs):
  Calls prog 52 #[v] w fun e w'=>e= .returned (.bool (qG xs))/\w=w':=by
 have HY:=zH (Vz (xs:=xs));have HN:=zH (fun k hk h=>Zz (xs:=xs) (k:=k) hk h);have HL:=zH (Sg (xs:=xs));obtain ⟨a,cap,rfl,g1,g2,g0,h⟩:=hv.parts;have HS:=zH h;clear hv h g0;generalize qG xs=r at*
 by_cases hl:xs.length<=60
 ·have hd:¬ (60:Int)<((xs.length:Nat):Int):=by omega
  go_enter func52,ntmps52
  go_wp2_with fail
  go_loop [3] (fun i=>∃ k:Nat,k<=xs.length/\i= .int .i64 k/\∀ j,j<k ->rC (xs.getD j default)=true) (fun i=>xs.length-(intOf i).toNat)
  case atStart=>exact ⟨0,aL _,rfl,fun j hj=>absurd hj (by omega)⟩
  case round=>
   obtain ⟨k,hk,rfl,hall⟩:=hrel;have HA:=zH hall;clear hall
   by_cases hlt:k<xs.length
   ·obtain ⟨b,o,c,hv,-,-,-,hc⟩:=nP HS.o (by omega)
    simp only [aC] at hv
    obtain ⟨rfl,-,rfl⟩:=hv;obtain ⟨c0,c1,c2,c3,c4,c5,c6,c7⟩:=hc k hlt;have HNK:=zH (HN.o k hlt);have HYK:Hid (rC (xs.getD k default)=true ->∀ j,j<k+1 ->rC (xs.getD j default)=true):=zH (fun h j hj=>by
     by_cases e:j=k
     ·rw [e];exact h
     ·exact HA.o j (by omega))
    have HB:=zH (AV (x:=xs.getD k default));clear hc;generalize xs.getD k default=x at*;have z1:=nZ x.key;have z2:=nZ x.field;have z3:=nZ x.elem;generalize bt x.key=K at*;generalize bt x.field=F at*;generalize bt x.elem=El at*;generalize x.key.length=m1 at*;generalize x.field.length=m2 at*;generalize x.elem.length=m3 at*
    by_cases h1:m1<=300
    ·have b1:¬ (300:Int)<(m1:Int):=by omega
     by_cases h2:m2<=300
     ·have b2:¬ (300:Int)<(m2:Int):=by omega
      by_cases h3:m3<=300
      ·have b3:¬ (300:Int)<(m3:Int):=by omega
       have HX:=zH (HYK.o (HB.o.2 ⟨h1,h2,h3⟩));clear h1 h2 h3;go_wp2_with fail
       go_round
       case rel=>exact ⟨k+1,by omega,by go_num,HX.o⟩
       case measure=>simp [intOf];omega
      ·have b3:(300:Int)<(m3:Int):=by omega
       obtain rfl:r=false:=HNK.o (by rw [bH];intro e;exact h3 (HB.o.1 e).2.2);clear h1 h2 h3;go_wp2_with fail
       go_ret
       exact ⟨rfl,rfl⟩
     ·have b2:(300:Int)<(m2:Int):=by omega
      obtain rfl:r=false:=HNK.o (by rw [bH];intro e;exact h2 (HB.o.1 e).2.1);clear h1 h2;go_wp2_with fail
      go_ret
      exact ⟨rfl,rfl⟩
    ·have b1:(300:Int)<(m1:Int):=by omega
     obtain rfl:r=false:=HNK.o (by rw [bH];intro e;exact h1 (HB.o.1 e).1);clear h1;go_wp2_with fail
     go_ret
     exact ⟨rfl,rfl⟩
   ·obtain rfl:k=xs.length:=by omega
    obtain rfl:r=true:=HY.o hl HA.o;go_wp2_with fail
    go_ret
    exact ⟨rfl,rfl⟩
 ·obtain rfl:r=false:=HL.o hl
  have hd:(60:Int)<((xs.length:Nat):Int):=by omega
  go_enter func52,ntmps52
  go_wp2_with fail
  go_ret
  exact ⟨rfl,rfl⟩
theorem Gj(x:fK):Ym x= .agg #[.string (bt x.key),.string (bt x.field),.int .i64 x.kind,.string (bt x.elem),.int .i64 x.n,.int .i64 x.dot.node,.int .i64 x.dot.seq,.int .i64 x.dot.pos]:=rfl
theorem IG{u:Value}{xs:List fK}{w:World}{row:Option Nat}(hu:Old gG row w.heap.size w u xs)(hn:xs.length<=1000000)(f:Nat ->Bool)(I:Nat ->World ->Prop)(g:Nat)(lb:Array Value)
  (eg:∀ args w,(callFunc g args).run prog w= .ok (.enter g args) w) (hrow:∀ j,row=some j ->j<w.heap.size)
  (hI:∀ k W W',I k W ->Below w.heap.size W W' ->I k W')
  (hp:∀ k W,k<xs.length ->I k W ->w.grownBy W row ->Calls prog g (#[Ym (xs.getD k default)]++lb) W fun e W'=>e= .returned (.bool (f k))/\I (k+1) W'/\W.grownBy W' row)
  (h0:I 0 w):
  Calls prog 150 #[u,.func (.func g) #[] lb] w fun e w'=>∃ v,e= .returned v/\gy gG w.heap.size w' v (ou f xs xs.length)/\w.grownBy w' row/\I xs.length w':=by
 have hu':=hu;obtain ⟨a,cap,-,rfl,-⟩:=hu';have HS:=zH hu;have HI:=zH hI;have HP:=zH hp;have HR:=zH hrow;have H0:=zH h0;obtain ⟨n,hN⟩:∃ n,xs.length=n:=⟨_,rfl⟩;rw [hN] at hn ⊢;have LN:=zH hN;clear hu hI hp hrow h0 hN;go_enter func150,ntmps150
 go_wp2_with fail
 go_loopw [5,10] (fun o i wr=>∃ k:Nat,k<=n/\i= .int .i64 k/\gy gG w.heap.size wr o (ou f xs k)/\w.grownBy wr row/\I k wr) (fun _ i _=>n-(intOf i).toNat)
 case atStart=>exact ⟨0,aL _,rfl,gy.nil _ _,bV _ _,H0.o⟩
 case round=>
  obtain ⟨k,hk,rfl,ho,hb,hi⟩:=hrel;have HO:=zH ho;have HB:=zH hb;have HK:=zH hi;have PL:=Lr f xs k;clear ho hb hi
  by_cases hlt:k<n
  ·have hkx:=zH (show k<xs.length by rw [LN.o];exact hlt)
   obtain ⟨b,o,c,hv,-,-,-,hc⟩:=nP ((HS.o.kept HB.o).seq HB.o.size) (by rw [LN.o];omega);rw [LN.o] at hv;simp only [aC] at hv
   obtain ⟨rfl,-,rfl⟩:=hv;obtain ⟨c0,c1,c2,c3,c4,c5,c6,c7⟩:=hc k hkx.o;have PK:=zH (fun W=>HP.o k W hkx.o);have S1:=zH (fun (W:World)=>Im W (xs.getD k default));have PY:=zH (fun h=>Lp (f:=f) (xs:=xs) (k:=k) h);have PN:=zH (fun h=>QV (f:=f) (xs:=xs) (k:=k) h);clear hc;generalize xs.getD k default=x at*;have B1:=zH ((aj w.heap.size wr).alloc HB.o.size (.cells #[.string (bt x.key),.string (bt x.field),.int .i64 x.kind,.string (bt x.elem),.int .i64 x.n,.int .i64 x.dot.node,.int .i64 x.dot.seq,.int .i64 x.dot.pos] 79));have BG:=zH (jZ HB.o B1.o);have K:=PK.o _ (HI.o _ _ _ HK.o B1.o) BG.o;have O1:=zH (HO.o.alloc (.cells #[.string (bt x.key),.string (bt x.field),.int .i64 x.kind,.string (bt x.elem),.int .i64 x.n,.int .i64 x.dot.node,.int .i64 x.dot.seq,.int .i64 x.dot.pos] 79));have IB:Hid (jS (wr.alloc (.cells #[.string (bt x.key),.string (bt x.field),.int .i64 x.kind,.string (bt x.elem),.int .i64 x.n,.int .i64 x.dot.node,.int .i64 x.dot.seq,.int .i64 x.dot.pos] 79)) wr.heap.size 0 x):=zH ⟨by simp,by simp,by simp,by simp,by simp,by simp,by simp,by simp⟩;have hsz:w.heap.size<=wr.heap.size:=HB.o.size;have HZ:=zH hsz;clear hsz PK;rw [Gj] at K;go_upto_region 5 with fail
   clear c0 c1 c2 c3 c4 c5 c6 c7;generalize (wr.alloc _)=wb at*;obtain ⟨c0,c1,c2,c3,c4,c5,c6,c7⟩:=IB.o;simp only [aJ] at c1 c2 c3 c4 c5 c6 c7
   cases hf:f k with
   |true=>
    rw [hf] at K;have HY:=zH (PY.o hf);clear hf PY PN;have HC8:Hid (∀ W,wb.grownBy W row ->jS W wr.heap.size 0 x):=zH (fun W hg=>⟨hg.cell IB.o.c0 (fun e=>by have:=HR.o _ e.symm;have:=HZ.o;simp at*;omega),hg.cell IB.o.c1 (fun e=>by have:=HR.o _ e.symm;have:=HZ.o;simp at*;omega),hg.cell IB.o.c2 (fun e=>by have:=HR.o _ e.symm;have:=HZ.o;simp at*;omega),hg.cell IB.o.c3 (fun e=>by have:=HR.o _ e.symm;have:=HZ.o;simp at*;omega),hg.cell IB.o.c4 (fun e=>by have:=HR.o _ e.symm;have:=HZ.o;simp at*;omega),hg.cell IB.o.c5 (fun e=>by have:=HR.o _ e.symm;have:=HZ.o;simp at*;omega),hg.cell IB.o.c6 (fun e=>by have:=HR.o _ e.symm;have:=HZ.o;simp at*;omega),hg.cell IB.o.c7 (fun e=>by have:=HR.o _ e.symm;have:=HZ.o;simp at*;omega)⟩);have HG2:Hid (∀ W,wb.grownBy W row ->w.grownBy W row):=zH (fun W hg=>j5 BG.o hg (fun j hj=> .inl hj));have HO2:Hid (∀ W,wb.grownBy W row ->gy gG w.heap.size W u5 (ou f xs k)):=zH (fun W hg=>O1.o.kept jR hg HR.o);go_wp2_with (first
     |(go_at_fn g;refine K.mono ?_;rintro e w1 ⟨rfl,hi,hg⟩;have I1:=zH hi;have G1:=zH hg;obtain ⟨c0,c1,c2,c3,c4,c5,c6,c7⟩:=HC8.o _ hg;simp only [aJ] at c1 c2 c3 c4 c5 c6 c7;have G2:=zH (HG2.o _ hg);have O2:=zH (HO2.o _ hg);clear hi hg)
     |(at_builtin;refine gT gG rfl (.tmp 17) (.tmp 19) rfl w.heap.size rfl (O2.o.alloc _) rfl (S1.o _) (fun _ _ h=>h) (by simp;omega) (by have:=G2.o.size;simp;omega) ?_))
    intro v' w2 ho' hgr _;have O3:=zH ho';rw [<-HY.o] at O3;have BL:=zH (((aj w.heap.size w1).alloc G2.o.size _).grown hgr (by have:=G2.o.size;simp;omega) (fun j hj=>(O2.o.lt j hj).1));have I3:=zH (HI.o _ _ _ I1.o BL.o);have G3:=zH (jZ G2.o BL.o);clear ho' hgr;go_wp2_with fail
    go_roundw
    case rel=>exact ⟨k+1,by omega,by go_num,O3.o,G3.o,I3.o⟩
    case measure=>simp [intOf];omega
   |false=>
    rw [hf] at K;have HY:=zH (PN.o hf);clear hf PY PN;go_wp2_with (go_at_fn g;refine K.mono ?_;rintro e w1 ⟨rfl,hi,hg⟩)
    have I1:=zH hi;have O2:=zH (O1.o.kept jR hg HR.o);rw [<-HY.o] at O2;have G2:=zH (j5 BG.o hg (fun j hj=> .inl hj));clear hi hg K c0 c1 c2 c3 c4 c5 c6 c7;go_wp2_with fail
    go_roundw
    case rel=>exact ⟨k+1,by omega,by go_num,O2.o,G2.o,I1.o⟩
    case measure=>simp [intOf];omega
  ·obtain rfl:k=n:=by omega
   go_wp2_with fail
   go_ret
   exact ⟨_,rfl,HO.o,HB.o,HK.o⟩
theorem wZ{u:Value}{xs:List fK}{w:World}(hu:fM gG w u xs)(hn:xs.length<=1000000):Calls prog 147 #[u] w (vQ gG w xs):=by
 obtain ⟨a,cap,rfl,-,-,g0,h⟩:=hu.parts;have q22:∀ (w:World) (a:Option Addr) (n c n' c':Nat),(binOp .eql 26 (.slice a n c) (.slice none n' c')).run prog w= .ok (.bool a.isNone) w:=fun w a n c n' c'=>Lib.run_eql_slice_nil w _ _ a n c n' c' underlying26
 cases a with
 |none=>
  obtain rfl:=g0 rfl;obtain rfl:xs=[]:=aK (by have:=h.iY;omega);go_enter func147,ntmps147
  go_wp2_with fail
  go_ret
  exact ⟨_,rfl,gy.nil _ _,aj _ _⟩
 |some ad=>
  have HS:=zH (h.iB (.cells #[] 79));have HO:=zH (gy.empty (L:=gG) w w.heap.size (ah _));have HB:=zH (zB w (.cells #[] 79));have hz:w.heap.size<=(w.alloc (.cells #[] 79)).heap.size:=by simp
  have HZ:=zH hz;clear hu h g0 hz;go_enter func147,ntmps147
  go_wp2_with (at_builtin;refine gT gG rfl (.tmp 5) (.tmp 6) rfl w.heap.size rfl HO.o rfl HS.o (fun _ _ h=>h) (by simp;omega) HZ.o ?_)
  intro v' w2 ho' hgr _;have O3:=zH ho';have B3:=zH (HB.o.grown hgr HZ.o (fun j hj=>(HO.o.lt j hj).1));clear ho' hgr;go_wp2_with fail
  go_ret
  exact ⟨_,rfl,by simpa using O3.o,B3.o⟩
theorem WL(xs:List Int)(n g:Nat)(w:World)(hn:xs.length=n)(hp:n<=1000)(hc:∀ j,j<n ->w.cell? ⟨g,j,none⟩=some (.int .i64 (xs.getD j 0))):
  Calls prog 212 #[.slice (some ⟨g,0,none⟩) n n] w fun e w'=>e= .returned (.int .i64 (kF xs))/\w'=w:=by
 have hit:∀ (l:List Int) (k:Nat),k<l.length ->(∀ j,j<k ->l.getD j 0=0) ->l.getD k 0≠0 ->kF l=l.getD k 0:=by
  intro l
  induction l with
  |nil=>intro k h;simp at h
  |cons c l ih=>
   intro k hk ha hh
   cases k with
   |zero=>simp only [List.getD_cons_zero] at hh ⊢;rw [kF,if_neg hh]
   |succ k=>
    have h0:=ha 0 (by omega);simp only [List.getD_cons_zero] at h0
    simp only [List.getD_cons_succ] at hh ⊢
    rw [kF,if_pos h0];exact ih k (by simpa using hk) (fun j hj=>by have:=ha (j+1) (by omega);simpa using this) hh
 have none:∀ l:List Int,(∀ j,j<l.length ->l.getD j 0=0) ->kF l=0:=by
  intro l
  induction l with
  |nil=>intro _;rfl
  |cons c l ih=>
   intro ha;have h0:=ha 0 (by simp);simp only [List.getD_cons_zero] at h0
   rw [kF,if_pos h0];exact ih fun j hj=>by have:=ha (j+1) (by simpa using hj);simpa using this
 have HH:=zH (hit xs);have HN:=zH (none xs);have HC:=zH hc;rw [hn] at HH HN;clear hit none hc hn;generalize kF xs=r at*;obtain ⟨f,hf⟩:∃ f:Nat ->Int,(fun j=>xs.getD j 0)=f:=⟨_,rfl⟩;have HF:=zH (fun j=>congrFun hf j);clear hf;go_enter func212,ntmps212
 go_wp2_with fail
 go_loop [8] (fun i=>∃ k:Nat,k<=n/\i= .int .i64 k/\∀ j,j<k ->xs.getD j 0=0) (fun i=>n-(intOf i).toNat)
 case atStart=>exact ⟨0,aL _,rfl,fun j hj=>absurd hj (by omega)⟩
 case round=>
  obtain ⟨k,hk,rfl,hall⟩:=hrel;have HA:=zH hall;clear hall
  by_cases hlt:k<n
  ·have c0:=HC.o k hlt
   have hnx:=zH (HH.o k hlt HA.o);have hz:Hid (xs.getD k 0=0 ->∀ j,j<k+1 ->xs.getD j 0=0):=zH (fun e j hj=>by
    by_cases e2:j=k
    ·rw [e2];exact e
    ·exact HA.o j (by omega))
   generalize xs.getD k 0=c at*
   by_cases hc0:c=0
   ·have HX:=zH (hz.o hc0)
    subst hc0;go_wp2_with fail
    go_round
    case rel=>exact ⟨k+1,by omega,by go_num,HX.o⟩
    case measure=>simp [intOf];omega
   ·obtain rfl:r=c:=hnx.o hc0
    go_wp2_with fail
    go_ret
    exact ⟨rfl,rfl⟩
  ·obtain rfl:k=n:=by omega
   obtain rfl:r=0:=HN.o HA.o;go_wp2_with fail
   go_ret
   exact ⟨rfl,rfl⟩
open Go.ChangeMaps Go.MapKept
open Go.WideElems (findIdx_born findIdx_arr modify_last set_self)
theorem Gq:prog.underlying 212=some (.map 77 24):=underlying212
structure VA(es:Array MapEntry)(clock:Nat)(V:gB ->Value):Prop where
 at_:∀ e∈es.toList,∃ d,jf d/\e.key=dv d/\e.val=V d
 born:∀ e∈es.toList,e.born<clock
 once:(es.toList.map (·.born)).Nodup
 keys:(es.toList.map (·.key)).Nodup
 none_:∀ d,(∀ e∈es.toList,e.key≠dv d) ->V d= .slice none 0 0
def MapAt(w:World)(b:Nat)(V:gB ->Value):Prop:=∃ es clock,w.heap[b]? =some (.map es clock)/\VA es clock V
def xC(w:World)(b:Nat)(d:gB)(st:Nat):Prop:=∃ es clock,w.heap[b]? =some (.map es clock)/\∃ e∈es.toList,e.key=dv d/\e.born=st
theorem MapAt.keep{w w':World}{b:Nat}{V:gB ->Value}(h:MapAt w b V)(hb:w'.heap[b]? =w.heap[b]?):MapAt w' b V:=by
 obtain ⟨es,clock,h1,h2⟩:=h;exact ⟨es,clock,hb.trans h1,h2⟩
theorem xC.keep{w w':World}{b:Nat}{d:gB}{st:Nat}(h:xC w b d st)(hb:w'.heap[b]? =w.heap[b]?):xC w' b d st:=by
 obtain ⟨es,clock,h1,h2⟩:=h;exact ⟨es,clock,hb.trans h1,h2⟩
theorem MapAt.lt{w:World}{b:Nat}{V:gB ->Value}(h:MapAt w b V):b<w.heap.size:=by
 obtain ⟨es,clock,h1,-⟩:=h;exact (aH.1 h1).1
theorem MapAt.made(w:World):MapAt (w.alloc (.map #[] 0)) w.heap.size (fun _=> .slice none 0 0):=
 ⟨#[],0,(MapKept.heap_alloc w _).1,⟨by simp,by simp,by simp,by simp,fun _ _=>rfl⟩⟩
theorem MapAt.below{w w':World}{b:Nat}{V:gB ->Value}(h:MapAt w b V)(hb:Below w.heap.size w w'):MapAt w' b V:=h.keep (hb.block b h.lt)
theorem VA.reads{es:Array MapEntry}{clock:Nat}{V:gB ->Value}(h:VA es clock V):∀ e∈es.toList,∃ l,keyOf prog 77 e.key=some l:=fun e he=>by
 obtain ⟨d,hd,hk,-⟩:=h.at_ e he;exact ⟨kd d,by rw [hk];exact kS hd⟩
theorem MapAt.look{w:World}{b:Nat}{V:gB ->Value}(h:MapAt w b V){d:gB}(hd:jf d):(Instr.lookup 212 (.map (some b)) (dv d) false).run prog w= .ok (V d) w:=by
 obtain ⟨es,clock,hb,hE⟩:=h;have hkey:=kS hd
 rcases nM.find w hkey es.toList hE.reads with ⟨h1,h2⟩|⟨j,e0,h1,h2,h3⟩
 ·rw [hE.none_ d h2]
  simp [Instr.lookup,run_underlying Gq,MapKept.run_getObj_map hb,nM.check w _ hkey,h1,Result.andThen]
 ·obtain ⟨d',hd',hk,hv⟩:=hE.at_ e0 (bD h2)
  obtain rfl:d'=d:=Om (hk.symm.trans h3);rw [<-hv];simp [Instr.lookup,run_underlying Gq,MapKept.run_getObj_map hb,nM.check w _ hkey,h1,Result.andThen]
theorem uZ{w:World}{b:Nat}{es es':Array MapEntry}{clock clock':Nat}(hb:w.heap[b]? =some (.map es clock)):jF (fun k=>k=b) w (setBlock w b (.map es' clock')):=
 ⟨rfl,rfl,rfl,by simp [setBlock],fun k _ hn=>heap_setBlock_other hb _ hn⟩
theorem MapAt.entry{w:World}{b:Nat}{V:gB ->Value}(h:MapAt w b V){d:gB}(hd:jf d):
  ∃ (st:Nat) (w1:World),(Instr.mapEntry 212 (.map (some b)) (dv d)).run prog w= .ok (.tuple #[V d,goInt st]) w1/\MapAt w1 b V/\xC w1 b d st/\jF (fun k=>k=b) w w1/\w1.heap.size=w.heap.size:=by
 obtain ⟨es,clock,hb,hE⟩:=h;have hkey:=kS hd
 rcases nM.find w hkey es.toList hE.reads with ⟨h1,h2⟩|⟨j,e0,h1,h2,h3⟩
 ·have hV:=hE.none_ d h2
  refine ⟨clock,setBlock w b (.map (es.push ⟨dv d,.slice none 0 0,clock⟩) (clock+1)),?_,⟨_,_,heap_setBlock_same hb _,?_⟩,⟨_,_,heap_setBlock_same hb _,⟨dv d,.slice none 0 0,clock⟩,by simp,rfl,rfl⟩,uZ hb,by simp [setBlock]⟩
  ·rw [hV]
   simp [Instr.mapEntry,run_underlying Gq,MapKept.run_getObj_map hb,nM.check w false hkey,h1,MapKept.run_setObj_map _ hb,Result.andThen,setBlock]
  ·constructor
   ·intro e he
    simp only [Array.toList_push,bA,bE] at he
    rcases he with he|rfl
    ·exact hE.at_ e he
    ·exact ⟨d,hd,rfl,hV.symm⟩
   ·intro e he
    simp only [Array.toList_push,bA,bE] at he
    rcases he with he|rfl
    ·exact bG (hE.born e he)
    ·exact Nat.lt_succ_self _
   ·simp only [Array.toList_push,List.map_append,List.map_cons,List.map_nil]
    refine dw.2 ⟨hE.once,by simp,fun a ha c hc e1=> ?_⟩;simp only [bE] at hc
    obtain ⟨x,hx,rfl⟩:=List.mem_map.1 ha;have:=hE.born x hx;omega
   ·simp only [Array.toList_push,List.map_append,List.map_cons,List.map_nil]
    refine dw.2 ⟨hE.keys,by simp,fun a ha c hc e1=> ?_⟩;simp only [bE] at hc
    obtain ⟨x,hx,rfl⟩:=List.mem_map.1 ha;exact h2 x hx (e1.trans hc)
   ·intro d' hn
    refine hE.none_ d' fun e he=>hn e ?_
    simp [he]
 ·have hm0:e0∈es.toList:=bD h2
  have hj:es[j]? =some e0:=by simpa using h2
  obtain ⟨d',hd',hk,hv⟩:=hE.at_ e0 hm0;obtain rfl:d'=d:=Om (hk.symm.trans h3);have hsame:es.modify j (fun e=>{e with key:=dv d'})=es:=by
   apply Array.ext'
   rw [Array.toList_modify,modify_eq_set _ _ _ _ h2];have:({e0 with key:=dv d'}:MapEntry)=e0:=by rw [<-h3]
   rw [this];exact set_self _ _ _ h2
  refine ⟨e0.born,setBlock w b (.map es clock),?_,⟨_,_,heap_setBlock_same hb _,hE⟩,⟨_,_,heap_setBlock_same hb _,e0,hm0,h3,rfl⟩,uZ hb,by simp [setBlock]⟩;rw [<-hv];simp [Instr.mapEntry,run_underlying Gq,MapKept.run_getObj_map hb,nM.check w false hkey,h1,hj,h3,nM.stays w hkey,hsame,MapKept.run_setObj_map _ hb,Result.andThen,setBlock]
def Ef(V:gB ->Value)(d:gB)(v:Value):gB ->Value:=fun e=>if e=d then v else V e
theorem MapAt.store{w:World}{b:Nat}{V:gB ->Value}(h:MapAt w b V){d:gB}{st:Nat}(hs:xC w b d st)(hd:jf d)(v:Value):
  ∃ w1,(Instr.entryStore 212 (.map (some b)) (goInt st) v).run prog w= .ok () w1/\MapAt w1 b (Ef V d v)/\jF (fun k=>k=b) w w1/\w1.heap.size=w.heap.size:=by
 obtain ⟨es,clock,hb,hE⟩:=h;obtain ⟨es',clock',hb',e0,hm0,hk0,rfl⟩:=hs;rw [hb] at hb'
 cases hb'
 obtain ⟨j,hlt,hj'⟩:=dJ.1 hm0;have hj:es.toList[j]? =some e0:=by rw [au hlt,hj']
 have hidx:es.findIdx? (fun e=>((e.born:Nat):Int)==((e0.born:Nat):Int))=some j:=by
  rw [findIdx_arr];exact findIdx_born hE.once hj
 have hmod:(es.modify j (fun e=>{e with val:=v})).toList=es.toList.set j {e0 with val:=v}:=by
  rw [Array.toList_modify,modify_eq_set _ _ _ _ hj]
 have hmem:∀ e∈(es.modify j (fun e=>{e with val:=v})).toList,e={e0 with val:=v}\/(e∈es.toList/\e.key≠e0.key):=by
  rw [hmod];intro e he;obtain ⟨i,hi,rfl⟩:=dJ.1 he;rw [aX] at hi
  by_cases c:j=i
  ·subst c;left;simp
  ·right
   rw [List.getElem_set_ne c];refine ⟨aU _,fun ek=> ?_⟩;have hn:=List.pairwise_iff_getElem.1 hE.keys;have hl:j<(es.toList.map (·.key)).length:=by simpa using hlt
   have hl2:i<(es.toList.map (·.key)).length:=by simpa using hi
   have e1:(es.toList.map (·.key))[j]=e0.key:=by rw [eT,hj']
   have e2:(es.toList.map (·.key))[i]=e0.key:=by rw [eT,ek]
   rcases Nat.lt_or_gt_of_ne c with hc|hc
   ·exact hn j i hl hl2 hc (e1.trans e2.symm)
   ·exact hn i j hl2 hl hc (e2.trans e1.symm)
 refine ⟨setBlock w b (.map (es.modify j (fun e=>{e with val:=v})) clock),?_,⟨_,_,heap_setBlock_same hb _,?_⟩,uZ hb,by simp [setBlock]⟩
 ·simp [Instr.entryStore,MapKept.run_getObj_map hb,asInt,asIntOf,goInt,hidx,MapKept.run_setObj_map _ hb,Result.andThen,setBlock]
 ·constructor
  ·intro e he
   rcases hmem e he with rfl|⟨h1,h2⟩
   ·exact ⟨d,hd,hk0,by unfold Ef;rw [if_pos rfl]⟩
   ·obtain ⟨d',hd',hk',hv'⟩:=hE.at_ e h1
    refine ⟨d',hd',hk',?_⟩;unfold Ef;rw [if_neg (fun ed=>h2 (by rw [hk',hk0,ed])),hv']
  ·intro e he
   rcases hmem e he with rfl|⟨h1,h2⟩
   ·exact hE.born e0 hm0
   ·exact hE.born e h1
  ·rw [hmod,List.map_set]
   rw [set_self _ _ _ (by simp [hj])];exact hE.once
  ·rw [hmod,List.map_set]
   rw [set_self _ _ _ (by simp [hj])];exact hE.keys
  ·intro d' hn
   have hne:d'≠d:=fun ed=>hn {e0 with val:=v} (by rw [hmod];exact List.mem_set hlt _) (by rw [ed];exact hk0)
   unfold Ef;rw [if_neg hne];refine hE.none_ d' fun e he=> ?_
   obtain ⟨i,hi,rfl⟩:=dJ.1 he
   by_cases c:j=i
   ·subst c
    rw [hj',hk0];exact fun ek=>hne (Om ek).symm
   ·exact hn _ (by rw [hmod];rw [show es.toList[i]=(es.toList.set j {e0 with val:=v})[i]'(by simpa using hi) from (List.getElem_set_ne c _).symm];exact aU _)
end Go.Proofs.YtfgcodcablpdcaaGreat