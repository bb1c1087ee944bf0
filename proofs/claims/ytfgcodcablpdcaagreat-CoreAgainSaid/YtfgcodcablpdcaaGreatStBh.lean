import Derived.Test.YtfgcodcablpdcaaGreatOrChns
import Derived.Test.YtfgcodcablpdcaaGreatCoMath
import Derived.Test.YtfgcodcablpdcaaGreatStSnd
set_option linter.unusedVariables false
namespace Go.Proofs.YtfgcodcablpdcaaGreat
open Go.Proofs.Tryz
open Go.RowKit Plain
def sw(B:Nat)(w:World)(v:Value)(xs:List Bool):Prop:=w.ownsRow B 4 1 v xs.length (xs.map Value.bool)
theorem ZM(xs:List Bool)(j:Nat)(hj:j<xs.length):(xs.map Value.bool)[j]? =some (Value.bool (gone xs j)):=by
 unfold gone;simp [List.getD,List.getElem?_eq_getElem hj]
theorem sw.lt{B:Nat}{w:World}{v:Value}{xs:List Bool}(h:sw B w v xs):∀ k,v.ownBlock=some k ->B<=k/\k<w.heap.size:=fG h
theorem sw.keep{B:Nat}{w w':World}{v:Value}{xs:List Bool}(h:sw B w v xs)(hk:∀ k,v.ownBlock=some k ->w'.heap[k]? =w.heap[k]?):sw B w' v xs:=by
 refine ⟨h.1,?_⟩
 rcases h.2 with hn|⟨g,cap,cur,hv,hb',hg,hr⟩
 ·exact .inl hn
 ·exact .inr ⟨g,cap,cur,hv,hb',(hk g (by rw [hv];rfl)).trans hg,hr⟩
theorem sw.below{B:Nat}{w w':World}{v:Value}{xs:List Bool}(h:sw B w v xs)(hb:Below w.heap.size w w'):sw B w' v xs:=h.keep fun k hk=>hb.block k (h.lt k hk).2
theorem sw.cell{B:Nat}{w:World}{g n cap:Nat}{xs:List Bool}(h:sw B w (.slice (some ⟨g,0,none⟩) n cap) xs)(hn:xs.length=n)(j:Nat)(hj:j<n):w.cell? ⟨g,j,none⟩=some (Value.bool (gone xs j)):=by
 have h':w.ownsRow B 4 1 (.slice (some ⟨g,0,none⟩) n cap) n (xs.map Value.bool):=by unfold sw at h;rw [hn] at h;exact h
 rw [bI h' j (by omega),ZM xs j (by omega)]
theorem sw.set{B:Nat}{w:World}{g n cap:Nat}{xs:List Bool}(h:sw B w (.slice (some ⟨g,0,none⟩) n cap) xs)(hn:xs.length=n)(j:Nat)(x:Bool):sw B (w.setCell ⟨g,j,none⟩ (.bool x)) (.slice (some ⟨g,0,none⟩) n cap) (xs.set j x):=by
 have h':w.ownsRow B 4 1 (.slice (some ⟨g,0,none⟩) n cap) n (xs.map Value.bool):=by unfold sw at h;rw [hn] at h;exact h
 have hs:=(bQ h' j (Value.bool x)).1;have e:(xs.map Value.bool).set j (Value.bool x)=(xs.set j x).map Value.bool:=by simp [List.map_set]
 rw [e] at hs;unfold sw;rw [aX,hn];exact hs
theorem unlike{w:World}{B C m n j k:Nat}{e f:TypeId}{u v:Value}{xs ys:List Value}(h1:w.ownsRow B e m u j xs)(h2:w.ownsRow C f n v k ys)(hne:e≠f):∀ b,u.ownBlock=some b ->v.ownBlock≠some b:=fun b hu hv=>by
 obtain ⟨c,fz,a1⟩:=Lib.ownsRow_kind h1 b hu;obtain ⟨c',fz',a2⟩:=Lib.ownsRow_kind h2 b hv;rw [a1] at a2;simp only [bS,dY] at a2
 exact hne a2.2.1
def CZ(w wr:World)(v:Value)(u:Ints):Prop:=gQ w v u\/gI w.heap.size wr v u
theorem CZ.seq{w wr:World}{v:Value}{u:Ints}(h:CZ w wr v u)(hb:Below w.heap.size w wr):gQ wr v u:=h.elim (fun h=>h.below hb) fun h=>h.seq
theorem CZ.keep{w wr w':World}{v:Value}{u:Ints}(h:CZ w wr v u)(hk:∀ k,w.heap.size<=k ->k<wr.heap.size ->(∃ c fz,wr.heap[k]? =some (.cells c 3 fz)) ->w'.heap[k]? =wr.heap[k]?):CZ w w' v u:=
 h.imp id fun h=>h.keep fun k e=>hk k (h.lt k e).1 (h.lt k e).2 (Lib.ownsRow_kind h k e)
structure Sm(l:List fI)(v:Ints)(w:World)(n gb:Nat)(vv tv:Value)(wr:World)(k:Nat)(g:List Bool)(a:List fI)(u:Ints):Prop where
 marks:sw w.heap.size wr (.slice (some ⟨gb,0,none⟩) n n) g
 glen:g.length=l.length
 vec:CZ w wr vv u
 taken:iO (fun b=>b≠gb) gV w.heap.size wr tv a
 all:kH v l=a++kH u (nC g l)
 last:u=jd v a
 past:∀ j,j<k ->gone g j=true\/¬ gY u (jr l j)=true
 low:Below w.heap.size w wr
 len:u.length<=1000000
theorem Sn{w:World}{la:Option Addr}{n lc:Nat}{l:List fI}(h:fM gV w (.slice la n lc) l)(hp:0<n):∃ lb lo,la=some ⟨lb,lo,none⟩/\∀ k,k<n ->∃ da dn dc ea en ec,(∀ W,Below w.heap.size w W ->
  (W.cell? ⟨lb,lo+k*4,none⟩=some (.int .i64 (jr l k).node)/\W.cell? ⟨lb,lo+k*4+1,none⟩=some (.int .i64 (jr l k).seq)/\W.cell? ⟨lb,lo+k*4+2,none⟩=some (.slice da dn dc)/\W.cell? ⟨lb,lo+k*4+3,none⟩=some (.slice ea en ec))/\
   kN W (.agg #[.int .i64 (jr l k).node,.int .i64 (jr l k).seq,.slice da dn dc,.slice ea en ec]) (jr l k))/\fM gL w (.slice da dn dc) (jr l k).deps/\fM jo w (.slice ea en ec) (jr l k).effs:=by
 obtain ⟨lb,lo,e,hc⟩:=CP h hp;refine ⟨lb,lo,e,fun k hk=> ?_⟩;obtain ⟨da,dn,dc,ea,en,ec,hW⟩:=hc k hk;have:=(hW w (aj _ _)).2;obtain ⟨dv,ev,e1,h1,h2⟩:=this;simp only [Value.agg.injEq,Array.mk.injEq,List.cons.injEq,true_and,and_true] at e1
 exact ⟨da,dn,dc,ea,en,ec,hW,by rw [e1.1];exact h1,by rw [e1.2];exact h2⟩
theorem Sm.below{l:List fI}{v u:Ints}{w wr w':World}{n gb k:Nat}{vv tv:Value}{g:List Bool}{a:List fI}(h:Sm l v w n gb vv tv wr k g a u)(hb:Below wr.heap.size wr w'):Sm l v w n gb vv tv w' k g a u:=
 ⟨h.marks.below hb,h.glen,h.vec.keep fun k _ hk _=>hb.block k hk,h.taken.below hb (ah _),h.all,h.last,h.past,h.low.trans (hb.mono h.low.size),h.len⟩
theorem Sm.gb{l:List fI}{v u:Ints}{w wr:World}{n gb k:Nat}{vv tv:Value}{g:List Bool}{a:List fI}(h:Sm l v w n gb vv tv wr k g a u):w.heap.size<=gb/\gb<wr.heap.size:=h.marks.lt gb rfl
theorem CZ.grown{w wr w':World}{vv tv:Value}{u:Ints}{a:List fI}{J:Nat ->Prop}(h:CZ w wr vv u)(ht:iO J gV w.heap.size wr tv a)(hg:wr.grownBy w' tv.ownBlock):CZ w w' vv u:=
 h.keep fun k _ hk hi=>hg.block k hk fun e=>by
  obtain ⟨vals,ho,-⟩:=ht;obtain ⟨c,fz,h1⟩:=hi;obtain ⟨c',fz',h2⟩:=Lib.ownsRow_kind ho k e.symm;rw [h1] at h2;simp only [bS,dY] at h2
  exact Jm h2.2.1.symm
theorem Qq:∀ (a:List fI) (v:Ints),(jd v a).length<=max v.length 8
 |[],v=>by show v.length<=_;omega
 |t::a,v=>by
  have h1:=Qq a (gZ v t);have h2:=tu v t
  show (jd (gZ v t) a).length<=_
  omega
def tH(w:World)(v:Value)(p:jV):Prop:=∃ fv lv,v= .agg #[fv,lv]/\fM gL w fv p.floor/\fM gV w lv p.list
theorem tH.below{w w':World}{v:Value}{p:jV}(h:tH w v p)(hb:Below w.heap.size w w'):tH w' v p:=by
 obtain ⟨fv,lv,rfl,h1,h2⟩:=h;exact ⟨fv,lv,rfl,h1.below hb,h2.below hb⟩
theorem tH.slices{w:World}{v:Value}{p:jV}(h:tH w v p):∃ fa fn fc la ln lc,v= .agg #[.slice fa fn fc,.slice la ln lc]/\fM gL w (.slice fa fn fc) p.floor/\fM gV w (.slice la ln lc) p.list:=by
 obtain ⟨fv,lv,rfl,h1,h2⟩:=h;obtain ⟨a1,c1,rfl,-,-,-,k1⟩:=h1.parts;obtain ⟨a2,c2,rfl,-,-,-,k2⟩:=h2.parts;exact ⟨_,_,_,_,_,_,rfl,k1,k2⟩
section
open Go.ChangeShapes Go.WideShapes Go.Joins
set_option maxRecDepth 100000
end
structure C8(g:Nat)(p:jV)(fa:Option Addr)(fn fc:Nat)(la:Option Addr)(ln lc:Nat)(u:World):Prop where
 b:u.heap[g]? =some (.cells #[.slice fa fn fc,.slice la ln lc] 31 (0,0))
 f:fM gL u (.slice fa fn fc) p.floor
 l:fM gV u (.slice la ln lc) p.list
section
variable {g:Nat} {p:jV} {fa la:Option Addr} {fn fc ln lc:Nat} {u u':World}
theorem C8.c(k:C8 g p fa fn fc la ln lc u):u.cell? ⟨g,0,none⟩=some (.slice fa fn fc)/\u.cell? ⟨g,1,none⟩=some (.slice la ln lc):=(kY k.b).1
theorem C8.lt(k:C8 g p fa fn fc la ln lc u):g<u.heap.size:=(aH.1 k.b).1
theorem C8.below(k:C8 g p fa fn fc la ln lc u)(hb:Below u.heap.size u u'):C8 g p fa fn fc la ln lc u':=
 ⟨(hb.block g k.lt).trans k.b,k.f.below hb,k.l.below hb⟩
theorem zM{w:World}(h1:fM gL w (.slice fa fn fc) p.floor)(h2:fM gV w (.slice la ln lc) p.list):C8 w.heap.size p fa fn fc la ln lc (w.alloc (.cells #[.slice fa fn fc,.slice la ln lc] 31)):=
 have hb:=zB w (.cells #[.slice fa fn fc,.slice la ln lc] 31)
 ⟨aM w _,h1.below hb,h2.below hb⟩
end
def GivesPa(w:World)(p:jV)(e:Ending)(w':World):Prop:=∃ fa fn fc la ln lc,e= .returned (.agg #[.slice fa fn fc,.slice la ln lc])/\Sq gL (fun b=>w.heap.size<=b/\b<w'.heap.size) w' (.slice fa fn fc) p.floor/\Sq gV (fun b=>w.heap.size<=b/\b<w'.heap.size) w' (.slice la ln lc) p.list/\Below w.heap.size w w'
def WB(w:World)(l:List fI)(e:Ending)(w':World):Prop:=∃ la ln lc,e= .returned (.slice la ln lc)/\Sq gV (fun b=>w.heap.size<=b/\b<w'.heap.size) w' (.slice la ln lc) l/\Below w.heap.size w w'
theorem Sq.new{α:Type}{L:El α}{N:Nat}{w:World}{v:Value}{xs:List α}(h:Sq L (fun b=>N<=b/\b<w.heap.size) w v xs):fM L w v xs:=h.mono fun b hb=>hb.2
end Go.Proofs.YtfgcodcablpdcaaGreat
set_option maxRecDepth 100000
set_option maxHeartbeats 64000000
namespace Go.Proofs.YtfgcodcablpdcaaGreat
open Go.Proofs.Tryz
open Go.RowKit Plain
theorem sameAllR{uv vv:Value}{xs ys:List fI}{w:World}(hu:fM gV w uv xs)(hv:fM gV w vv ys)(hl:xs.length<=1000000)(r:Bool)(hr:decide (xs=ys)=r):Calls prog 94 #[uv,vv] w (fO w r):=by
 rw [<-hr];exact RO hu hv hl
instance:DecidableEq jV:=fun a b=>decidable_of_iff (a.floor=b.floor/\a.list=b.list) Kl.symm
theorem VG(a b:jV):decide (a=b)=(decide (a.floor=b.floor)&&decide (a.list=b.list)):=by
 rw [dO,aD,decide_eq_true_iff,decide_eq_true_iff,decide_eq_true_iff];exact Kl
theorem paSameR{u v:Value}{a b:jV}{w:World}(hu:tH w u a)(hv:tH w v b)(hal:a.list.length<=1000000)(r:Bool)(hr:decide (a=b)=r):Calls prog 40 #[u,v] w (fO w r):=by
 obtain ⟨ha,hn,hc,ia,im,ic,rfl,h1,h2⟩:=hu.slices;obtain ⟨ka,kn,kc,ja,jm,jc,rfl,k1,k2⟩:=hv.slices;rw [VG] at hr;have b1:=zB w (.cells #[.slice ha hn hc,.slice ia im ic] 31);have b2:=(aj (w.alloc (.cells #[.slice ha hn hc,.slice ia im ic] 31)).heap.size (w.alloc (.cells #[.slice ha hn hc,.slice ia im ic] 31))).alloc (ah _) (.cells #[.slice ka kn kc,.slice ja jm jc] 31);have G0:=zH (b1.trans (b2.mono b1.size));have X:=zH ((zM (p:=a) h1 h2).below b2);have Y:Hid (C8 (w.heap.size+1) b ka kn kc ja jm jc ((w.alloc (.cells #[.slice ha hn hc,.slice ia im ic] 31)).alloc (.cells #[.slice ka kn kc,.slice ja jm jc] 31))):=zH (by have:=zM (p:=b) (w:=w.alloc (.cells #[.slice ha hn hc,.slice ia im ic] 31)) (k1.below b1) (k2.below b1);rwa [show (w.alloc (.cells #[.slice ha hn hc,.slice ia im ic] 31)).heap.size=w.heap.size+1 by simp] at this);clear hu hv h1 h2 k1 k2 b1 b2;go_enter func40,ntmps40
 go_upto_region 1 with fail
 generalize ((w.alloc _).alloc _)=wb at*;obtain ⟨c0,c1⟩:=X.o.c;obtain ⟨d0,d1⟩:=Y.o.c;have KE:=qX (gW X.o.f) (gW Y.o.f)
 cases hq:decide (a.floor=b.floor) with
 |false=>
  rw [hq] at KE hr;obtain rfl:r=false:=by rw [<-hr];rfl
  go_wp2_with fail
  refine KE.mono ?_;rintro e w2 ⟨rfl,q,rfl⟩;have G2:=zH (below_drewN G0.o q);clear KE c0 c1 d0 d1;go_wp2_with fail
  go_ret
  exact ⟨rfl,G2.o⟩
 |true=>
  rw [hq] at KE hr;rw [aS] at hr;have KS:=zH (fun u (hb:Below wb.heap.size wb u)=>sameAllR (X.o.below hb).l (Y.o.below hb).l hal r hr);have HC:=zH (fun u (hb:Below wb.heap.size wb u)=>cK (X.o.below hb).c (Y.o.below hb).c);go_wp2_with fail
  refine KE.mono ?_;rintro e w2 ⟨rfl,q,hw⟩;have hb:Below wb.heap.size wb w2:=by rw [hw];exact below_drewN (aj _ _) q
  have G2:=zH (G0.o.trans (hb.mono G0.o.size));have K2:=KS.o w2 hb;clear KE c0 c1 d0 d1 hw;obtain ⟨⟨c0,c1⟩,d0,d1⟩:=HC.o w2 hb;clear hb;go_wp2_with fail
  refine K2.mono ?_;rintro e w3 ⟨rfl,hb⟩;have G3:=zH (G2.o.trans (hb.mono G2.o.size));clear hb K2 c0 c1 d0 d1;go_wp2_with fail
  go_ret
  exact ⟨rfl,G3.o⟩
end Go.Proofs.YtfgcodcablpdcaaGreat
set_option maxRecDepth 100000
set_option maxHeartbeats 64000000
namespace Go.Proofs.YtfgcodcablpdcaaGreat
open Go.Proofs.Tryz
open Go.RowKit Plain
variable {α β:Type} {L:El α} {M:El β}
theorem gy.beside{B:Nat}{w w':World}{row:Option Nat}{v:Value}{xs:List α}(hf:Flat L)(h:gy L B w v xs)(hg:w.grownBy w' row)(hr:∀ k,v.ownBlock=some k ->row≠some k):gy L B w' v xs:=by
 obtain ⟨vals,ho,hrows⟩:=h;refine ⟨vals,⟨ho.1,?_⟩,⟨hrows.1,fun j x hj=>hf (hrows.2 j x hj)⟩⟩
 rcases ho.2 with hn|⟨g,cap,cur,hv,hb,hgc,hr'⟩
 ·exact .inl hn
 ·have hlt:g<w.heap.size:=(aH.1 hgc).1
  exact .inr ⟨g,cap,cur,hv,hb,(hg.block g hlt (fun e=>hr g (by rw [hv];rfl) e.symm)).trans hgc,hr'⟩
theorem gy.unlike{B C:Nat}{w:World}{u v:Value}{xs:List α}{ys:List β}(h:gy L B w u xs)(g:gy M C w v ys)(hne:L.E≠M.E):∀ k,u.ownBlock=some k ->v.ownBlock≠some k:=fun b hu hv=>by
 obtain ⟨vals,h1,-⟩:=h;obtain ⟨vals',h2,-⟩:=g;obtain ⟨c,fz,a1⟩:=Lib.ownsRow_kind h1 b hu;obtain ⟨c',fz',a2⟩:=Lib.ownsRow_kind h2 b hv;rw [a1] at a2;simp only [bS,dY] at a2
 exact hne a2.2.1
theorem one_txnF{W:World}{N:Nat}{x:fI}{dv ev ov:Value}(hd:Sq gL (fun b=>b<N) W dv x.deps)(he:Sq jo (fun b=>b<N) W ev x.effs)(hN:N<=W.heap.size)(hov:∀ k,ov.ownBlock=some k ->N<=k/\k<W.heap.size):
  Sq gV (fun b=>b<(W.alloc (.cells #[.int .i64 x.node,.int .i64 x.seq,dv,ev] 82)).heap.size/\ov.ownBlock≠some b) (W.alloc (.cells #[.int .i64 x.node,.int .i64 x.seq,dv,ev] 82)) (.slice (some ⟨W.heap.size,0,none⟩) 1 1) [x]:=by
 have hS:(W.alloc (.cells #[.int .i64 x.node,.int .i64 x.seq,dv,ev] 82)).heap.size=W.heap.size+1:=by simp
 rw [hS];have hB:Below W.heap.size W (W.alloc (.cells #[.int .i64 x.node,.int .i64 x.seq,dv,ev] 82)):=(aj _ _).alloc (ah _) _;have hw:∀ b,b<N ->b<W.heap.size+1/\ov.ownBlock≠some b:=fun b hb=>⟨by omega,fun e=>by have:=hov b e;omega⟩
 refine ⟨_,1,rA x dv ev,rfl,ah _,by unfold maxLen;simp,(by simp),Rows.Bc ⟨_,_,rfl,(hd.agree fun b hb=>hB.block b (by omega)).mono hw,(he.agree fun b hb=>hB.block b (by omega)).mono hw⟩,fun _=>⟨_,0,rfl,⟨by omega,fun e=>by have:=hov _ e;omega⟩,fun i u' hu=> ?_⟩⟩;rw [aJ];have:=bg W #[.int .i64 x.node,.int .i64 x.seq,dv,ev] 82 i;rw [this,<-cB];exact hu
theorem C9{l:List fI}{k:Nat}(hk:k<l.length):l.take (k+1)=l.take k++[jr l k]:=by
 rw [bK hk,kX hk]
theorem ZO{l:List fI}{k:Nat}(hk:k<l.length)(h:fQ (jr l k)=true):oG (l.take (k+1))=oG (l.take k)++[jr l k]:=by
 rw [C9 hk];unfold oG;rw [List.filter_append];simp [h]
theorem sForm_no{l:List fI}{k:Nat}(hk:k<l.length)(h:fQ (jr l k)=false):oG (l.take (k+1))=oG (l.take k):=by
 rw [C9 hk];unfold oG;rw [List.filter_append];simp [h]
theorem Ku(l:List fI):(oG l).length<=l.length:=List.length_filter_le _ _
theorem MU{v:Value}{l:List fI}{w:World}(hv:fM gV w v l)(hn:l.length<=1000000)(hf:∀ t∈l,lJ t):Calls prog 174 #[v] w (vQ gV w (oG l)):=by
 obtain ⟨la,lc,rfl,L1,L2,-,-⟩:=hv.parts;have HL:=zH hv;have HF:=zH hf;have HT0:Hid (oG (l.take 0)=[]):=zH rfl;obtain ⟨n,hN⟩:∃ n,n=l.length:=⟨_,rfl⟩;have HN:=zH hN;have WI:Hid (l.take n=l):=zH (by rw [hN,bq]);rw [<-hN] at HL L1 hn ⊢;clear hv hf hN;go_enter func174,ntmps174
 go_wp2_with fail
 go_loopw [3,8] (fun z i wr=>∃ k:Nat,k<=n/\i= .int .i64 k/\gy gV w.heap.size wr z (oG (l.take k))/\Below w.heap.size w wr) (fun _ i _=>n-(intOf i).toNat)
 case atStart=>exact ⟨0,aL _,rfl,by rw [HT0.o];exact gy.nil _ _,aj _ _⟩
 case round=>
  obtain ⟨k,hk,rfl,ho,hb⟩:=hrel;have O:=zH ho;have G:=zH hb;have HLN:Hid ((oG (l.take k)).length<=1000000):=zH (by have h1:=Ku (l.take k);rw [aO] at h1;omega);obtain ⟨ol,hol⟩:∃ m,(oG (l.take k)).length=m:=⟨_,rfl⟩;obtain ⟨oa,oc,rfl,-,-,-⟩:=ho.at ol hol;clear ho hb hol
  by_cases hlt:k<n
  ·have hkl:k<l.length:=by rw [<-HN.o];exact hlt
   obtain ⟨lb,lo,rfl,hc⟩:=Sn HL.o (by omega);obtain ⟨da,dn,dc,ea,en,ec,hW,hsd,hse⟩:=hc k hlt;have hft:=HF.o (jr l k) (by rw [kX hkl];exact aU hkl);have HY:=zH (ZO hkl);have HNO:=zH (sForm_no hkl);obtain ⟨⟨c0,c1,c2,c3⟩,-⟩:=hW wr G.o;have k1:(k:Int)<n:=by omega
   have k2:(n:Int)<=lc:=by omega
   have k3:(lc:Int)<=9223372036854775807:=by omega
   obtain ⟨fb,hfb⟩:∃ b,b=fQ (jr l k):=⟨_,rfl⟩;rw [<-hfb] at HY HNO;have SD:=zH hsd;have SE:=zH hse;clear hc hW;generalize jr l k=t at*;have TB:Hid (wE wr.heap.size t da dn dc ea en ec (wr.alloc (.cells #[.int .i64 t.node,.int .i64 t.seq,.slice da dn dc,.slice ea en ec] 82))):=zH (kZ (hsd.below G.o) (hse.below G.o));have KF:=zH (vL TB.o.is hft fb hfb.symm);have GB:Hid (Below w.heap.size w (wr.alloc (.cells #[.int .i64 t.node,.int .i64 t.seq,.slice da dn dc,.slice ea en ec] 82))):=zH (G.o.alloc G.o.size _);have OB:=zH (O.o.alloc (.cells #[.int .i64 t.node,.int .i64 t.seq,.slice da dn dc,.slice ea en ec] 82));clear hft hfb hsd hse hkl;go_upto_region 5 with fail
   clear c0 c1 c2 c3;generalize (wr.alloc _)=wb at*;generalize wr.heap.size=g at*;obtain ⟨c0,c1,c2,c3⟩:=TB.o.c;go_wp2_with fail
   refine KF.o.mono ?_;rintro e w2 ⟨rfl,hb⟩;have T2:=zH (TB.o.below hb);have O2:=zH (OB.o.below hb (ah _));have G2:=zH (GB.o.trans (hb.mono GB.o.size));clear hb c0 c1 c2 c3 KF TB OB GB
   cases fb with
   |false=>
    have E:=zH (HNO.o rfl);go_wp2_with fail
    go_roundw
    case rel=>exact ⟨k+1,by omega,by go_num,by rw [E.o];exact O2.o,G2.o⟩
    case measure=>simp [intOf];omega
   |true=>
    have E:=zH (HY.o rfl);obtain ⟨c0,c1,c2,c3⟩:=T2.o.c;have SDN:Hid (Sq gL (fun b=>b<w.heap.size) w2 (.slice da dn dc) t.deps):=zH (SD.o.agree fun b hb=>G2.o.block b hb);have SEN:Hid (Sq jo (fun b=>b<w.heap.size) w2 (.slice ea en ec) t.effs):=zH (SE.o.agree fun b hb=>G2.o.block b hb);go_wp2_with (at_builtin;refine gT gV rfl (.tmp 14) (.tmp 16) rfl w.heap.size rfl (O2.o.alloc _) rfl (one_txnF (x:=t) (N:=w.heap.size) SDN.o SEN.o G2.o.size O2.o.lt) (fun _ _ h=>h) (by have:=HLN.o;simp;omega) (by have:=G2.o.size;simp;omega) ?_)
    intro v5 w5 ho5 hg5 hat5;have OA:=zH (O2.o.alloc (.cells #[.int .i64 t.node,.int .i64 t.seq,.slice da dn dc,.slice ea en ec] 82));have BA:Hid (Below w.heap.size w (w2.alloc (.cells #[.int .i64 t.node,.int .i64 t.seq,.slice da dn dc,.slice ea en ec] 82))):=zH (G2.o.alloc G2.o.size _);have G5:Hid (Below w.heap.size w w5):=zH (BA.o.grown hg5 BA.o.size fun b hb=>(OA.o.lt b hb).1);have O5:=zH ho5;clear ho5 hg5 hat5 c0 c1 c2 c3;go_wp2_with fail
    go_roundw
    case rel=>exact ⟨k+1,by omega,by go_num,by rw [E.o];exact O5.o,G5.o⟩
    case measure=>simp [intOf];omega
  ·obtain rfl:k=n:=by omega
   rw [WI.o] at O;go_wp2_with fail
   go_ret
   exact ⟨_,rfl,O.o,G.o⟩
end Go.Proofs.YtfgcodcablpdcaaGreat
set_option maxRecDepth 100000
set_option maxHeartbeats 64000000
namespace Go.Proofs.YtfgcodcablpdcaaGreat
open Go.Proofs.Tryz
open Go.RowKit Plain
structure FK(t:fI):Prop where
 tx:lJ t
 effs:t.effs.length<=20
 drops:∀ e∈t.effs,e.drops.length<=100
theorem FK.ok{t:fI}(h:FK t):Ni t.node t.seq t.effs:=Yf h.tx.ok.1 h.tx.ok.2.1 h.tx.ok.2.2.2
theorem FK.dlen{t:fI}(h:FK t):(gN t.effs).length<=2000:=by
 have h1:=Dz (m:=100) (l:=t.effs) h.drops;have h2:=bN 100 h.effs;omega
theorem Jz:∀ {a:List fI},(∀ t∈a,FK t) ->(iL a).length<=2000*a.length
 |[],_=>ah _
 |t::a,h=>by
  have h1:=Jz (a:=a) fun u hu=>h u (by simp [hu])
  have h2:=(h t (by simp)).dlen;rw [Fh,aA,aZ];omega
theorem Fj:∀ {a:List fI},(∀ t∈a,FK t) ->(ku a).length<=20*a.length
 |[],_=>ah _
 |t::a,h=>by
  have h1:=Fj (a:=a) fun u hu=>h u (by simp [hu])
  have h2:=Gm t.node t.seq t.effs [];have h3:=(h t (by simp)).effs;rw [JA,aA,aZ];simp only [bf] at h2
  omega
theorem sMade_ok{a:List fI}(h:∀ t∈a,FK t):∀ x∈ku a,jf x.dot:=fun x hx=>by
 obtain ⟨u,hu,hxu⟩:=Mg hx;obtain ⟨e,he,rfl⟩:=Cm hxu;exact ((h u hu).ok e he).1
theorem ZP{a:List fI}(h:∀ t∈a,FK t):∀ d∈iL a,jf d:=fun d hd=>by
 obtain ⟨u,hu,hdu⟩:=List.mem_flatMap.1 hd;obtain ⟨e,he,hde⟩:=yS.1 hdu;exact ((h u hu).ok e he).2 d hde
theorem VH{a:List fI}{k:Nat}(hk:k<a.length):ku (a.take (k+1))=ku (a.take k)++FW (jr a k).node (jr a k).seq [] (jr a k).effs:=by rw [C9 hk,VI]
theorem Sr{a:List fI}{k:Nat}(hk:k<a.length):iL (a.take (k+1))=iL (a.take k)++gN (jr a k).effs:=by rw [C9 hk,Sv]
theorem Sw:jI.E≠gG.E:=by decide
theorem Sy:gG.E≠jI.E:=by decide
theorem MV{u v:Value}{i:List fK}{a:List fI}{w:World}(hu:fM gG w u i)(hv:fM gV w v a)(hi:i.length<=100000)(hn:a.length<=300)(hf:∀ t∈a,FK t)(hdi:∀ x∈i,jf x.dot):Calls prog 175 #[u,v] w (vQ gG w (nW i a)):=by
 obtain ⟨la,lc,rfl,L1,L2,-,-⟩:=hv.parts;have HL:=zH hv;have HF:=zH hf;have HU:=zH hu;have HI:=zH hi;have HM0:Hid (ku (a.take 0)=[]/\iL (a.take 0)=[]):=zH ⟨rfl,rfl⟩;have HZ:=zH (fun h1 h2=>OO (i:=i) (a:=a) h1 h2);have HS:=zH (fun h=>OP (i:=i) (a:=a) h);have HMO:=zH (sMade_ok hf);have HDO:=zH (ZP hf);have HDI:=zH hdi;obtain ⟨n,hN⟩:∃ n,n=a.length:=⟨_,rfl⟩;have HN:=zH hN;have WI:Hid (a.take n=a):=zH (by rw [hN,bq]);have HML:Hid (∀ k,k<=n ->(ku (a.take k)).length<=6000):=zH (fun k hk=>by have h1:=Fj (a:=a.take k) fun t ht=>hf t (bO ht);rw [aO] at h1;omega);have HDL:Hid (∀ k,k<=n ->(iL (a.take k)).length<=600000):=zH (fun k hk=>by have h1:=Jz (a:=a.take k) fun t ht=>hf t (bO ht);rw [aO] at h1;omega);rw [<-hN] at HL L1 hn ⊢;obtain ⟨ua,uc,rfl,-,-,-,-⟩:=hu.parts;generalize nW i a=res at*;clear hu hv hf hN hi hdi;obtain ⟨ni,hni⟩:∃ n,i.length=n:=⟨_,rfl⟩;have HNI:=zH hni;rw [hni] at HU ⊢;clear hni;go_enter func175,ntmps175
 go_wp2_with fail
 go_loopw [5,6,14] (fun mz dz c wr=>∃ k:Nat,k<=n/\c= .int .i64 k/\gy gG w.heap.size wr mz (ku (a.take k))/\gy jI w.heap.size wr dz (iL (a.take k))/\Below w.heap.size w wr) (fun _ _ c _=>n-(intOf c).toNat)
 case atStart=>exact ⟨0,aL _,rfl,by rw [HM0.o.1];exact gy.nil _ _,by rw [HM0.o.2];exact gy.nil _ _,aj _ _⟩
 case round=>
  obtain ⟨k,hk,rfl,hm,hd,hb⟩:=hrel;have M:=zH hm;have D:=zH hd;have G:=zH hb;have MLK:=zH (HML.o k hk);have DLK:=zH (HDL.o k hk);obtain ⟨ml,hml⟩:∃ m,(ku (a.take k)).length=m:=⟨_,rfl⟩;obtain ⟨dl,hdl⟩:∃ m,(iL (a.take k)).length=m:=⟨_,rfl⟩;obtain ⟨ma,mc,rfl,-,-,-⟩:=hm.at ml hml;obtain ⟨xa,xc,rfl,-,-,-⟩:=hd.at dl hdl;have MLE:=zH hml;have DLE:=zH hdl;clear hm hd hb hml hdl
  by_cases hlt:k<n
  ·have hkl:k<a.length:=by rw [<-HN.o];exact hlt
   obtain ⟨lb,lo,rfl,hc⟩:=Sn HL.o (by omega);obtain ⟨da,dn,dc,ea,en,ec,hW,hsd,hse⟩:=hc k hlt;have hft:=HF.o (jr a k) (by rw [kX hkl];exact aU hkl);have HTM:=zH (VH hkl);have HTD:=zH (Sr hkl);have HDK:=zH (HDL.o (k+1) hlt);obtain ⟨⟨c0,c1,c2,c3⟩,-⟩:=hW wr G.o;have k1:(k:Int)<n:=by omega
   have k2:(n:Int)<=lc:=by omega
   have k3:(lc:Int)<=9223372036854775807:=by omega
   have SE:=zH hse;clear hc hW;generalize jr a k=t at*;have TB:Hid (wE wr.heap.size t da dn dc ea en ec (wr.alloc (.cells #[.int .i64 t.node,.int .i64 t.seq,.slice da dn dc,.slice ea en ec] 82))):=zH (kZ (hsd.below G.o) (hse.below G.o));have GB:Hid (Below w.heap.size w (wr.alloc (.cells #[.int .i64 t.node,.int .i64 t.seq,.slice da dn dc,.slice ea en ec] 82))):=zH (G.o.alloc G.o.size _);have MB:=zH (M.o.alloc (.cells #[.int .i64 t.node,.int .i64 t.seq,.slice da dn dc,.slice ea en ec] 82));have DB:=zH (D.o.alloc (.cells #[.int .i64 t.node,.int .i64 t.seq,.slice da dn dc,.slice ea en ec] 82));have KD:=zH (edo_any t.node t.seq (fM.nil (wr.alloc (.cells #[.int .i64 t.node,.int .i64 t.seq,.slice da dn dc,.slice ea en ec] 82))) TB.o.e (by simp) (by have:=hft.effs;omega) (fun e he=>by have:=hft.drops e he;omega) (fun x hx=>absurd hx (by simp)) hft.ok);have EL:Hid ((FW t.node t.seq [] t.effs).length<=20):=zH (by have h1:=Gm t.node t.seq t.effs [];have:=hft.effs;simp only [bf] at h1;omega);have HFT:=zH hft;have MG:Hid (∀ j,(Value.slice ma ml mc).ownBlock=some j ->j<wr.heap.size):=zH (fun j hj=>(M.o.lt j hj).2);clear hft hsd hse hkl;go_upto_region 6 with fail
   clear c0 c1 c2 c3;generalize (wr.alloc _)=wb at*;generalize wr.heap.size=g at*;obtain ⟨c0,c1,c2,c3⟩:=TB.o.c;go_wp2_with (first
    |(go_at_call 237;refine KD.o.mono ?_;rintro e w2 ⟨v2,rfl,ho,hb⟩;have T2:=zH (TB.o.below hb);have M2:=zH (MB.o.below hb (ah _));have D2:=zH (DB.o.below hb (ah _));have G2:=zH (GB.o.trans (hb.mono GB.o.size));have S2:=zH ho.seq;obtain ⟨va2,vc2,rfl,-⟩:=ho.parts;clear ho hb c0 c1 c2 c3 KD TB MB DB GB)
    |(at_builtin;refine gT gG rfl (.tmp 18) (.tmp 25) rfl w.heap.size rfl M2.o rfl S2.o (fun _ _ h=>h) (by have:=MLK.o;have:=EL.o;omega) G2.o.size ?_))
   intro v3 w3 ho3 hg3 hat3;have M3:=zH ho3;rw [<-HTM.o] at M3;have D3:=zH (D2.o.beside pX hg3 (fun k hk e=>M2.o.unlike D2.o Sy k e hk));have G3:Hid (Below w.heap.size w w3):=zH (G2.o.grown hg3 G2.o.size fun b hb=>(M2.o.lt b hb).1);have EN:=zH (SE.o.iY);have SE3:=zH (SE.o.below G3.o);have B3:Hid (w3.cell? ⟨g,3,none⟩=some (.slice ea en ec)):=zH ((aQ (a:=⟨g,3,none⟩) (hg3.block g (aG w2 _ T2.o.c.2.2.2) fun e=>by have:=MG.o g e.symm;omega)).trans T2.o.c.2.2.2);obtain ⟨m3,hm3⟩:∃ m,(ku (a.take (k+1))).length=m:=⟨_,rfl⟩;obtain ⟨a3,c3',hv3,-,-,-⟩:=M3.o.at m3 hm3;subst hv3;have HT0:Hid (iL (a.take k)++gN (t.effs.take 0)=iL (a.take k)):=zH (aV _);have HTN:Hid (iL (a.take k)++gN (t.effs.take en)=iL (a.take (k+1))):=zH (by rw [HTD.o,<-EN.o.1,bq]);have HTS:Hid (∀ j,j<en ->iL (a.take k)++gN (t.effs.take (j+1))=iL (a.take k)++(gN (t.effs.take j)++(t.effs.getD j default).drops)):=zH (fun j hj=>by rw [Ip (l:=t.effs) (k:=j) (by rw [EN.o.1];exact hj)]);have HLJ:Hid (∀ j,j<=en ->(iL (a.take k)++gN (t.effs.take j)).length<=700000):=zH (fun j hj=>by
    have h1:=Dz (m:=100) (l:=t.effs.take j) fun e he=>HFT.o.drops e (bO he)
    have h2:(t.effs.take j).length<=20:=by rw [aO];have:=HFT.o.effs;omega
    have h3:=bN 100 h2;rw [aA];have:=DLK.o;omega)
   have Tt:Hid (∀ j,j<en ->(t.effs.getD j default).drops.length<=100):=zH (fun j hj=>HFT.o.drops _ (rR (by rw [EN.o.1];exact hj)));have e3:en<=9223372036854775807:=by have:=EN.o;omega
   have b3:=B3.o;clear ho3 hg3 hat3 hm3 M D G M2 D2 G2 S2 T2 MG;generalize iL (a.take k)=dk at*;go_wp2_with fail
   clear b3
   go_loopw [6,30] (fun dz c wi=>∃ j:Nat,j<=en/\c= .int .i64 j/\gy jI w.heap.size wi dz (dk++gN (t.effs.take j))/\gy gG w.heap.size wi (.slice a3 m3 c3') (ku (a.take (k+1)))/\Below w.heap.size w wi) (fun _ c _=>en-(intOf c).toNat)
   case atStart=>exact ⟨0,aL _,rfl,by rw [HT0.o];exact D3.o,M3.o,G3.o⟩
   case round=>
    obtain ⟨j,hj,rfl,hd,hm,hb⟩:=hrel;have D:=zH hd;have M:=zH hm;have G:=zH hb;have HLK:=zH (HLJ.o j hj);obtain ⟨dj,hdj⟩:∃ m,(dk++gN (t.effs.take j)).length=m:=⟨_,rfl⟩;obtain ⟨ja,jc,rfl,-,-,-⟩:=hd.at dj hdj;clear hd hm hb hdj
    by_cases hlt2:j<en
    ·obtain ⟨b,o,c,hv,-,-,-,hc⟩:=mZ (SE.o.below G.o) (by rw [EN.o.1];omega)
     rw [EN.o.1] at hv;simp only [aC] at hv
     obtain ⟨rfl,-,rfl⟩:=hv;obtain ⟨pv,EX,hsd⟩:=hc j (by rw [EN.o.1];exact hlt2);have HTJ:=zH (HTS.o j hlt2);have HMJ:=zH (Tt.o j hlt2);obtain ⟨pa,pc,rfl,-,-,-,hsd⟩:=hsd.parts;have k4:(j:Int)<en:=by omega
     have k5:(en:Int)<=ec:=by have:=EN.o;omega
     have k6:(ec:Int)<=9223372036854775807:=by have:=EN.o;omega
     clear hc;generalize t.effs.getD j default=x at*;obtain ⟨c0,c1,c2,c3,c4,c5,c6⟩:=EX;obtain ⟨m,hM⟩:∃ m,x.drops.length=m:=⟨_,rfl⟩;rw [hM] at hsd c6 HMJ;have LM:=zH hM;have SD:=zH (hsd.iB (.cells #[.int .i64 x.pos,.string (bt x.key),.string (bt x.field),.int .i64 x.kind,.string (bt x.elem),.int .i64 x.n,.slice pa m pc] 85));have OB:=zH (D.o.alloc (.cells #[.int .i64 x.pos,.string (bt x.key),.string (bt x.field),.int .i64 x.kind,.string (bt x.elem),.int .i64 x.n,.slice pa m pc] 85));have MB:=zH (M.o.alloc (.cells #[.int .i64 x.pos,.string (bt x.key),.string (bt x.field),.int .i64 x.kind,.string (bt x.elem),.int .i64 x.n,.slice pa m pc] 85));have GB:=zH (G.o.alloc G.o.size (.cells #[.int .i64 x.pos,.string (bt x.key),.string (bt x.field),.int .i64 x.kind,.string (bt x.elem),.int .i64 x.n,.slice pa m pc] 85));have EB:Hid (pF (wr.alloc (.cells #[.int .i64 x.pos,.string (bt x.key),.string (bt x.field),.int .i64 x.kind,.string (bt x.elem),.int .i64 x.n,.slice pa m pc] 85)) wr.heap.size 0 x (.slice pa m pc)):=zH (mY wr x pa m pc);clear hsd hM;go_upto_region 10 with fail
     clear c0 c1 c2 c3 c4 c5 c6;generalize (wr.alloc _)=wb2 at*;obtain ⟨c0,c1,c2,c3,c4,c5,c6⟩:=EB.o.zero;go_wp2_with (at_builtin;refine gT jI rfl (.tmp 34) (.tmp 36) rfl w.heap.size rfl OB.o rfl SD.o (fun _ _ h=>h) (by have:=HLK.o;have:=HMJ.o;have:=LM.o;omega) GB.o.size ?_)
     intro v7 w7 ho7 hg7 hat7;have D7:=zH ho7;rw [<-HTJ.o] at D7;have M7:=zH (MB.o.beside jR hg7 (fun k hk e=>OB.o.unlike MB.o Sw k e hk));have G7:Hid (Below w.heap.size w w7):=zH (GB.o.grown hg7 GB.o.size fun b hb=>(OB.o.lt b hb).1);clear ho7 hg7 hat7 c0 c1 c2 c3 c4 c5 c6;go_wp2_with fail
     go_roundw
     case rel=>exact ⟨j+1,by omega,by go_num,D7.o,M7.o,G7.o⟩
     case measure=>simp [intOf];omega
    ·obtain rfl:j=en:=by omega
     rw [HTN.o] at D;go_wp2_with fail
     go_roundw
     case rel=>exact ⟨k+1,by omega,by go_num,M.o,D.o,G.o⟩
     case measure=>simp [intOf];omega
  ·obtain rfl:k=n:=by omega
   rw [WI.o] at M D MLK DLK MLE DLE;rw [MLE.o] at MLK;rw [DLE.o] at DLK;clear WI HML HDL HM0
   by_cases hm0:ml=0
   ·have q0:((ml:Int)==0)=true:=by rw [hm0];rfl
    by_cases hd0:dl=0
    ·have q1:((dl:Int)==0)=true:=by rw [hd0];rfl
     have HE:=zH (HZ.o (by rw [MLE.o];exact hm0) (by rw [DLE.o];exact hd0));have KC:=zH (wZ (HU.o.below G.o) (by have:=HI.o;omega));clear hm0 hd0 HS HZ;go_wp2_with fail
     refine KC.o.mono ?_;rintro e w2 ⟨v2,rfl,ho,hb⟩;have O2:=zH (ho.mono G.o.size);have G2:=zH (G.o.trans (hb.mono G.o.size));obtain ⟨a2,c2,rfl,-⟩:=ho.parts;clear ho hb KC;go_wp2_with fail
     go_ret
     exact ⟨_,rfl,by rw [HE.o];exact O2.o,G2.o⟩
    ·have q1:((dl:Int)==0)=false:=beq_false_of_ne (by omega)
     have HE:=zH (HS.o (.inr (by rw [DLE.o];exact hd0)));clear hm0 hd0 HS HZ;have BA:=zH (G.o.alloc G.o.size (.cells #[.slice ua ni uc,.slice ma ml mc] 26));have BB:Hid (Below wr.heap.size wr (wr.alloc (.cells #[.slice ua ni uc,.slice ma ml mc] 26))):=zH ((aj _ _).alloc (ah _) _);have KC:=zH (Fp wr.heap.size 2 (wr.alloc (.cells #[.slice ua ni uc,.slice ma ml mc] 26)) (by simp) (by simp) (HU.o.below BA.o) (M.o.seq.below BB.o) (by have:=HI.o;have:=MLK.o;have:=MLE.o;have:=HNI.o;omega));have DB:=zH (D.o.alloc (.cells #[.slice ua ni uc,.slice ma ml mc] 26));have HLC:Hid ((i++ku a).length<=200000):=zH (by rw [aA];have:=HI.o;have:=MLK.o;have:=MLE.o;have:=HNI.o;omega);have HDC:Hid (∀ x∈i++ku a,jf x.dot):=zH (fun x hx=>(bA.1 hx).elim (HDI.o x) (HMO.o x));generalize i++ku a=cc at*;go_wp2_with fail
     refine KC.o.mono ?_;rintro e w2 ⟨v2,rfl,ho,hb⟩;have O2:=zH ho.seq;have D2:=zH (DB.o.below hb (ah _));have G2:=zH (BA.o.trans (hb.mono BA.o.size));obtain ⟨a2,c2,rfl,-⟩:=ho.parts;have KW:=zH (xk O2.o D2.o.seq (by have:=HLC.o;omega) (by have:=DLK.o;have:=DLE.o;omega) HDC.o HDO.o);have HLW:Hid ((gH cc (iL a)).length<=200000):=zH (by have:=p9 cc (iL a);have:=HLC.o;omega);have HDW:Hid (∀ x∈gH cc (iL a),jf x.dot):=zH (fun x hx=>HDC.o x (iX.1 hx).1);clear ho hb KC;generalize gH cc (iL a)=cw at*;generalize cc.length=nc at*;go_wp2_with fail
     refine KW.o.mono ?_;rintro e w3 ⟨v3,rfl,ho,hb⟩;have G3:=zH (G2.o.trans (hb.mono G2.o.size));have KN:=zH (vS ho.seq (by have:=HLW.o;omega) HDW.o);obtain ⟨a3,c3,rfl,-⟩:=ho.parts;clear ho hb KW;generalize iG cw=cn at*;generalize cw.length=nw at*;go_wp2_with fail
     refine KN.o.mono ?_;rintro e w4 ⟨v4,rfl,ho,hb⟩;have O4:=zH (ho.mono G3.o.size);have G4:=zH (G3.o.trans (hb.mono G3.o.size));obtain ⟨a4,c4,rfl,-⟩:=ho.parts;clear ho hb KN;go_wp2_with fail
     go_ret
     exact ⟨_,rfl,by rw [HE.o];exact O4.o,G4.o⟩
   ·have q0:((ml:Int)==0)=false:=beq_false_of_ne (by omega)
    have HE:=zH (HS.o (.inl (by rw [MLE.o];exact hm0)));clear hm0 HS HZ;have BA:=zH (G.o.alloc G.o.size (.cells #[.slice ua ni uc,.slice ma ml mc] 26));have BB:Hid (Below wr.heap.size wr (wr.alloc (.cells #[.slice ua ni uc,.slice ma ml mc] 26))):=zH ((aj _ _).alloc (ah _) _);have KC:=zH (Fp wr.heap.size 2 (wr.alloc (.cells #[.slice ua ni uc,.slice ma ml mc] 26)) (by simp) (by simp) (HU.o.below BA.o) (M.o.seq.below BB.o) (by have:=HI.o;have:=MLK.o;have:=MLE.o;have:=HNI.o;omega));have DB:=zH (D.o.alloc (.cells #[.slice ua ni uc,.slice ma ml mc] 26));have HLC:Hid ((i++ku a).length<=200000):=zH (by rw [aA];have:=HI.o;have:=MLK.o;have:=MLE.o;have:=HNI.o;omega);have HDC:Hid (∀ x∈i++ku a,jf x.dot):=zH (fun x hx=>(bA.1 hx).elim (HDI.o x) (HMO.o x));generalize i++ku a=cc at*;go_wp2_with fail
    refine KC.o.mono ?_;rintro e w2 ⟨v2,rfl,ho,hb⟩;have O2:=zH ho.seq;have D2:=zH (DB.o.below hb (ah _));have G2:=zH (BA.o.trans (hb.mono BA.o.size));obtain ⟨a2,c2,rfl,-⟩:=ho.parts;have KW:=zH (xk O2.o D2.o.seq (by have:=HLC.o;omega) (by have:=DLK.o;have:=DLE.o;omega) HDC.o HDO.o);have HLW:Hid ((gH cc (iL a)).length<=200000):=zH (by have:=p9 cc (iL a);have:=HLC.o;omega);have HDW:Hid (∀ x∈gH cc (iL a),jf x.dot):=zH (fun x hx=>HDC.o x (iX.1 hx).1);clear ho hb KC;generalize gH cc (iL a)=cw at*;generalize cc.length=nc at*;go_wp2_with fail
    refine KW.o.mono ?_;rintro e w3 ⟨v3,rfl,ho,hb⟩;have G3:=zH (G2.o.trans (hb.mono G2.o.size));have KN:=zH (vS ho.seq (by have:=HLW.o;omega) HDW.o);obtain ⟨a3,c3,rfl,-⟩:=ho.parts;clear ho hb KW;generalize iG cw=cn at*;generalize cw.length=nw at*;go_wp2_with fail
    refine KN.o.mono ?_;rintro e w4 ⟨v4,rfl,ho,hb⟩;have O4:=zH (ho.mono G3.o.size);have G4:=zH (G3.o.trans (hb.mono G3.o.size));obtain ⟨a4,c4,rfl,-⟩:=ho.parts;clear ho hb KN;go_wp2_with fail
    go_ret
    exact ⟨_,rfl,by rw [HE.o];exact O4.o,G4.o⟩
end Go.Proofs.YtfgcodcablpdcaaGreat