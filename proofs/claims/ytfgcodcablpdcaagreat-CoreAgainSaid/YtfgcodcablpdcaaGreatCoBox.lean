import Derived.Test.YtfgcodcablpdcaaGreatMsMsg
set_option linter.unusedVariables false
namespace Go.Proofs.YtfgcodcablpdcaaGreat
open Go.RowKit Plain
def ji:Array Value:=#[.int .i64 0,.int .i64 0,.slice none 0 0,.slice none 0 0,.slice none 0 0,.slice none 0 0,.slice none 0 0]
def kQ(u:World)(g:Nat)(x0 x1 x2 x3 x4 x5 x6:Value):World:=((((((u.setCell ⟨g,0,none⟩ x0).setCell ⟨g,1,none⟩ x1).setCell ⟨g,2,none⟩ x2).setCell ⟨g,3,none⟩ x3).setCell ⟨g,4,none⟩ x4).setCell ⟨g,5,none⟩ x5).setCell ⟨g,6,none⟩ x6
theorem gM{u:World}{g:Nat}{x0 x1 x2 x3 x4 x5 x6:Value}{t:TypeId}(h:u.heap[g]? =some (.cells #[x0,x1,x2,x3,x4,x5,x6] t (0,0))):u.cell? ⟨g,0,none⟩=some x0/\u.cell? ⟨g,1,none⟩=some x1/\u.cell? ⟨g,2,none⟩=some x2/\u.cell? ⟨g,3,none⟩=some x3/\u.cell? ⟨g,4,none⟩=some x4/\u.cell? ⟨g,5,none⟩=some x5/\u.cell? ⟨g,6,none⟩=some x6:=by
 have h:=fun i=>cell_of_row u g i _ _ _ h
 exact ⟨h 0,h 1,h 2,h 3,h 4,h 5,h 6⟩
theorem iI{u:World}{g:Nat}{cs:Array Value}{t:TypeId}(h:u.heap[g]? =some (.cells cs t (0,0)))(i:Nat):u.frozen? ⟨g,i,none⟩=false:=by
 unfold World.frozen?;rw [h];simp
theorem vo{u:World}{g:Nat}{z0 z1 z2 z3 z4 z5 z6:Value}{t:TypeId}(h:u.heap[g]? =some (.cells #[z0,z1,z2,z3,z4,z5,z6] t (0,0)))(x0 x1 x2 x3 x4 x5 x6:Value):
  ((kQ u g x0 x1 x2 x3 x4 x5 x6).cell? ⟨g,0,none⟩=some x0/\(kQ u g x0 x1 x2 x3 x4 x5 x6).cell? ⟨g,1,none⟩=some x1/\(kQ u g x0 x1 x2 x3 x4 x5 x6).cell? ⟨g,2,none⟩=some x2/\(kQ u g x0 x1 x2 x3 x4 x5 x6).cell? ⟨g,3,none⟩=some x3/\(kQ u g x0 x1 x2 x3 x4 x5 x6).cell? ⟨g,4,none⟩=some x4/\(kQ u g x0 x1 x2 x3 x4 x5 x6).cell? ⟨g,5,none⟩=some x5/\(kQ u g x0 x1 x2 x3 x4 x5 x6).cell? ⟨g,6,none⟩=some x6)/\
  (kQ u g x0 x1 x2 x3 x4 x5 x6).heap.size=u.heap.size/\(∀ b,b≠g ->(kQ u g x0 x1 x2 x3 x4 x5 x6).heap[b]? =u.heap[b]?)/\(∀ B,B<=g ->Below B u (kQ u g x0 x1 x2 x3 x4 x5 x6)):=by
 have h1:=aB u g 0 _ _ x0 h;have h2:=aB _ g 1 _ _ x1 h1;have h3:=aB _ g 2 _ _ x2 h2;have h4:=aB _ g 3 _ _ x3 h3;have h5:=aB _ g 4 _ _ x4 h4;have h6:=aB _ g 5 _ _ x5 h5;have h7:(kQ u g x0 x1 x2 x3 x4 x5 x6).heap[g]? =some (.cells #[x0,x1,x2,x3,x4,x5,x6] t (0,0)):=by
  have h:=aB _ g 6 _ _ x6 h6
  simpa [kQ] using h
 have e:∀ (u:World) (i:Nat) (x:Value) b,b≠g ->(u.setCell ⟨g,i,none⟩ x).heap[b]? =u.heap[b]? :=fun u i x b hb=>aN _ _ _ _ hb
 have f:∀ {B:Nat} (u:World) (i:Nat) (x:Value),B<=g ->Below B u (u.setCell ⟨g,i,none⟩ x):=fun u i x hB=>(aj _ u).setCell (p:=⟨g,i,none⟩) hB x
 refine ⟨gM h7,by simp [kQ,World.setCell],fun b hb=>(e _ _ _ b hb).trans ((e _ _ _ b hb).trans ((e _ _ _ b hb).trans ((e _ _ _ b hb).trans ((e _ _ _ b hb).trans ((e _ _ _ b hb).trans (e _ _ _ b hb)))))),fun B hB=> ?_⟩;exact ((((((f u 0 x0 hB).trans (f _ 1 x1 hB)).trans (f _ 2 x2 hB)).trans (f _ 3 x3 hB)).trans (f _ 4 x4 hB)).trans (f _ 5 x5 hB)).trans (f _ 6 x6 hB)
def jL(u:World)(g i:Nat)(x y:Value):World:=(u.setCell ⟨g,i,none⟩ x).setCell ⟨g,i+1,none⟩ y
theorem mD{u:World}{g i:Nat}{cs:Array Value}{t:TypeId}(h:u.heap[g]? =some (.cells cs t (0,0)))(x y:Value):(jL u g i x y).heap[g]? =some (.cells ((cs.setIfInBounds i x).setIfInBounds (i+1) y) t (0,0)):=
 aB _ g (i+1) _ _ y (aB u g i _ _ x h)
theorem iJ(u:World)(g i:Nat)(x y:Value){b:Nat}(h:b≠g):(jL u g i x y).heap[b]? =u.heap[b]? :=(aN _ _ _ _ h).trans (aN _ _ _ _ h)
theorem mE(u:World)(g i:Nat)(x y:Value):(jL u g i x y).heap.size=u.heap.size:=by simp [jL,World.setCell]
theorem lu{B:Nat}(u:World){g:Nat}(h:B<=g)(i:Nat)(x y:Value):Below B u (jL u g i x y):=((aj B u).setCell (p:=⟨g,i,none⟩) h x).setCell (p:=⟨g,i+1,none⟩) h y
theorem iC{α:Type}(L:El α)(P:Nat ->Prop)(w:World):Sq L P w (.slice none 0 0) []:=⟨none,0,[],rfl,aL _,aL _,fun _=>rfl,Rows.nil _ _,fun h=>absurd h (by simp)⟩
theorem Pq:∀ P w,oM.R P w oM.zero.cells.toList []:=fun P w=>⟨.slice none 0 0,rfl,iC _ _ _⟩
theorem vw{u:World}{g:Nat}{z0 z1 z2 z3 z4 z5 z6:Value}{t:TypeId}(h:u.heap[g]? =some (.cells #[z0,z1,z2,z3,z4,z5,z6] t (0,0)))(x0 x1 x2 x3 x4 x5 x6:Value):(kQ u g x0 x1 x2 x3 x4 x5 x6).heap[g]? =some (.cells #[x0,x1,x2,x3,x4,x5,x6] t (0,0)):=by
 have h1:=aB u g 0 _ _ x0 h;have h2:=aB _ g 1 _ _ x1 h1;have h3:=aB _ g 2 _ _ x2 h2;have h4:=aB _ g 3 _ _ x3 h3;have h5:=aB _ g 4 _ _ x4 h4;have h6:=aB _ g 5 _ _ x5 h5;have h:=aB _ g 6 _ _ x6 h6
 simpa [kQ] using h
theorem iO.empty{α:Type}{L:El α}(J:Nat ->Prop)(w:World)(B:Nat)(hB:B<=w.heap.size):iO J L B (w.alloc (.cells #[] L.E)) (.slice (some ⟨w.heap.size,0,none⟩) 0 0) []:=by
 obtain ⟨vals,ho,hr⟩:=gy.empty (L:=L) w B hB;exact ⟨vals,ho,hr.1,fun j x hj=>by simp at hj⟩
theorem Wn{α:Type}{L:El α}{J:Nat ->Prop}{B:Nat}{w:World}{g o n cap:Nat}{xs:List α}(h:iO J L B w (.slice (some ⟨g,o,none⟩) n cap) xs):0=o:=by
 obtain ⟨vals,ho,-⟩:=h
 rcases ho.2 with ⟨e,-⟩|⟨g',cap',cur,hv,-⟩
 ·cases e
 ·cases hv
  rfl
theorem iO.free{α:Type}{L:El α}{J:Nat ->Prop}{B:Nat}{w:World}{g n cap:Nat}{xs:List α}(h:iO J L B w (.slice (some ⟨g,0,none⟩) n cap) xs):∀ u,Below w.heap.size w u ->∀ i,u.frozen? ⟨g,i,none⟩=false:=by
 obtain ⟨vals,ho,-⟩:=h
 rcases ho.2 with ⟨e,-⟩|⟨g',cap',cur,hv,-,hg,-⟩
 ·cases e
 ·cases hv
  intro u hb i;exact iI ((hb.block g (aH.1 hg).1).trans hg) i
theorem pt_one(vals:List Value)(i:Nat):pt 1 vals i=vals[i]?.toList:=by
 unfold pt;rw [eY,List.take_one,List.head?_drop]
theorem iO.setV{J:Nat ->Prop}{B:Nat}{w:World}{g n cap j:Nat}{ks:List Ints}{xv:Value}{x:Ints}(h:iO J oM B w (.slice (some ⟨g,0,none⟩) n cap) ks)(hn:ks.length=n)(hj:j<ks.length)(hx:Sq gL (fun b=>J b/\b<w.heap.size/\b≠g) w xv x):
  iO J oM B (w.setCell ⟨g,j,none⟩ xv) (.slice (some ⟨g,0,none⟩) n cap) (ks.set j x):=by
 have hz:(w.setCell ⟨g,j,none⟩ xv).heap.size=w.heap.size:=by simp [World.setCell]
 have hk:∀ b,b≠g ->(w.setCell ⟨g,j,none⟩ xv).heap[b]? =w.heap[b]? :=fun b h=>aN _ _ _ _ h
 obtain ⟨vals,ho,hr⟩:=h;have hl:vals.length=ks.length:=by have:=ho.1;rwa [show oM.k=1 from rfl,eY] at this
 rcases ho.2 with ⟨e,-⟩|⟨g',cap',cur,hv,hb,hg,hnc,hcm,hcs,ht⟩
 ·cases e
 cases hv
 have hs:=aB w g j _ _ xv hg;refine ⟨vals.set j xv,⟨by rw [aX,aX];exact ho.1,.inr ⟨g,cap,cur.setIfInBounds j xv,by rw [aX],hb,hs,by rw [aX];exact hnc,hcm,by rw [Array.size_setIfInBounds];exact hcs,?_⟩⟩,?_,?_⟩
 ·rw [aX,<-ht,Array.toList_setIfInBounds,List.take_set]
 ·rw [aX,aX];exact ho.1
 ·intro i y hy
  show RVe _ _ (pt 1 (vals.set j xv) i) y
  rw [pt_one]
  by_cases e:i=j
  ·subst e
   rw [List.getElem?_set_self hj] at hy
   cases hy
   rw [List.getElem?_set_self (by omega)];exact ⟨xv,rfl,(hx.agree fun b h=>hk b h.2.2).mono fun b h=>⟨h.1,by rw [hz];exact h.2.1,fun e=>h.2.2 (dN e).symm⟩⟩
  ·rw [List.getElem?_set_ne (Ne.symm e)] at hy
   obtain ⟨v,ev,hd⟩:=hr.2 i y hy;have ev:pt 1 vals i=[v]:=ev;rw [List.getElem?_set_ne (Ne.symm e),<-pt_one,ev];exact ⟨v,rfl,(hd.agree fun b h=>hk b fun e=>h.2.2 (by rw [e];rfl)).mono fun b h=>⟨h.1,by rw [hz];exact h.2.1,h.2.2⟩⟩
theorem iO.top{α:Type}{L:El α}{J:Nat ->Prop}{B:Nat}{w:World}{v:Value}{xs:List α}(h:iO J L B w v xs):iO (fun b=>J b/\b<w.heap.size) L B w v xs:=by
 obtain ⟨vals,ho,hr⟩:=h;exact ⟨vals,ho,hr.mono fun b hb=>⟨⟨hb.1,hb.2.1⟩,hb.2.1,hb.2.2⟩⟩
theorem iO.sqO{α:Type}{L:El α}{J:Nat ->Prop}{B:Nat}{w:World}{v:Value}{xs:List α}(h:iO J L B w v xs)(hj:∀ k,v.ownBlock=some k ->J k):Sq L (fun b=>J b/\b<w.heap.size) w v xs:=by
 have hlt:=h.lt;obtain ⟨vals,ho,hr⟩:=h;have hr':Rows L (fun b=>J b/\b<w.heap.size) w vals xs:=hr.mono fun b hb=>⟨hb.1,hb.2.1⟩
 rcases ho.2 with ⟨rfl,hn⟩|⟨g,cap,cur,rfl,hb,hg,hnc,hcm,hcs,htake⟩
 ·refine ⟨none,0,vals,by rw [hn],by omega,aL _,fun _=>rfl,hr',fun hp=>absurd hp (by omega)⟩
 ·refine ⟨_,cap,vals,rfl,hnc,hcm,(by simp),hr',fun hp=>⟨g,0,rfl,⟨hj g rfl,(hlt g rfl).2⟩,fun i u hi=> ?_⟩⟩
  have hil:i<xs.length*L.k:=by rw [<-hr.1];exact (aP.1 hi).1
  rw [aJ,bI ho i hil,hi]
structure nk(w:World)(c:fT)(s:pQ)(u:World):Prop where
 cb:u.heap[w.heap.size]? =some (.cells (fP c s) 34 (0,0))
 zb:u.heap[w.heap.size+1]? =some (.cells ji 34 (0,0))
 low:Below w.heap.size w u
section
variable {w u u':World} {c d:fT} {s s':pQ}
theorem nk.lt(k:nk w c s u):w.heap.size+1<u.heap.size:=(aH.1 k.zb).1
theorem nk.below(k:nk w c s u)(hb:Below u.heap.size u u'):nk w c s u':=by
 have:=k.lt;exact ⟨(hb.block _ (by omega)).trans k.cb,(hb.block _ this).trans k.zb,k.low.trans (hb.mono k.low.size)⟩
theorem nk.cl{ha ia fa la ka:Option Addr}{hn hc im ic fn fc ln lc kn kc:Nat}(k:nk w c ⟨ha,hn,hc,ia,im,ic,fa,fn,fc,la,ln,lc,ka,kn,kc⟩ u):u.cell? ⟨w.heap.size,0,none⟩=some (.int .i64 c.me)/\u.cell? ⟨w.heap.size,1,none⟩=some (.int .i64 c.cores)/\u.cell? ⟨w.heap.size,2,none⟩=some (.slice ha hn hc)/\u.cell? ⟨w.heap.size,3,none⟩=some (.slice ia im ic)/\u.cell? ⟨w.heap.size,4,none⟩=some (.slice fa fn fc)/\u.cell? ⟨w.heap.size,5,none⟩=some (.slice la ln lc)/\u.cell? ⟨w.heap.size,6,none⟩=some (.slice ka kn kc):=by
 have h:=k.cb;unfold fP at h;exact gM h
theorem nk.free(k:nk w c s u)(i:Nat):u.frozen? ⟨w.heap.size,i,none⟩=false:=iI k.cb i
theorem nk.next(k:nk w c s u)(hb:∀ b,b≠w.heap.size ->u'.heap[b]? =u.heap[b]?)(hl:Below w.heap.size w u')(hc:u'.heap[w.heap.size]? =some (.cells (fP d s') 34 (0,0))):nk w d s' u':=
 ⟨hc,(hb _ (by omega)).trans k.zb,hl⟩
theorem nk.other{g:Nat}(k:nk w c s u)(hg:w.heap.size+2<=g)(hb:∀ b,b≠g ->u'.heap[b]? =u.heap[b]?)(hl:Below w.heap.size w u'):nk w c s u':=⟨(hb _ (by omega)).trans k.cb,(hb _ (by omega)).trans k.zb,hl⟩
theorem nk.set6{ha ia fa la ka ya:Option Addr}{hn hc im ic fn fc ln lc kn kc yn yc:Nat}(k:nk w c ⟨ha,hn,hc,ia,im,ic,fa,fn,fc,la,ln,lc,ka,kn,kc⟩ u):nk w c ⟨ha,hn,hc,ia,im,ic,fa,fn,fc,la,ln,lc,ya,yn,yc⟩ (u.setCell ⟨w.heap.size,6,none⟩ (.slice ya yn yc)):=by
 have h6:=aB u w.heap.size 6 _ _ (.slice ya yn yc) k.cb;exact k.next (fun b h=>aN _ _ _ _ h) (k.low.trans ((aj _ _).setCell (p:=⟨w.heap.size,6,none⟩) (ah _) _)) (by simpa [fP] using h6)
theorem nk.set5{ha ia fa la ka ya:Option Addr}{hn hc im ic fn fc ln lc kn kc yn yc:Nat}(k:nk w c ⟨ha,hn,hc,ia,im,ic,fa,fn,fc,la,ln,lc,ka,kn,kc⟩ u):nk w c ⟨ha,hn,hc,ia,im,ic,fa,fn,fc,ya,yn,yc,ka,kn,kc⟩ (u.setCell ⟨w.heap.size,4+1,none⟩ (.slice ya yn yc)):=by
 have h6:=aB u w.heap.size 5 _ _ (.slice ya yn yc) k.cb;exact k.next (fun b h=>aN _ _ _ _ h) (k.low.trans ((aj _ _).setCell (p:=⟨w.heap.size,5,none⟩) (ah _) _)) (by simpa [fP] using h6)
theorem nk.grown{row:Option Nat}(k:nk w c s u)(hg:u.grownBy u' row)(hr:∀ b,row=some b ->w.heap.size+2<=b):nk w c s u':=by
 have:=k.lt;exact ⟨(hg.block _ (by omega) fun e=>by have:=hr _ e.symm;omega).trans k.cb,(hg.block _ this fun e=>by have:=hr _ e.symm;omega).trans k.zb,k.low.grown hg k.low.size fun b e=>by have:=hr b e;omega⟩
theorem nk.as(k:nk w c s u)(h1:d.me=c.me)(h2:d.cores=c.cores):nk w d s u:=⟨by have h:=k.cb;unfold fP at h ⊢;rw [h1,h2];exact h,k.zb,k.low⟩
theorem vB{w:World}(c:fT)(s:pQ):nk w c s ((w.alloc (.cells (fP c s) 34)).alloc (.cells ji 34)):=by
 have b1:=zB w (.cells (fP c s) 34);have z1:(w.alloc (.cells (fP c s) 34)).heap.size=w.heap.size+1:=by simp
 have b2:=(aj (w.heap.size+1) (w.alloc (.cells (fP c s) 34))).alloc (by rw [z1];exact ah _) (.cells ji 34);have g0:=aM w (.cells (fP c s) 34);have g1:=aM (w.alloc (.cells (fP c s) 34)) (.cells ji 34);rw [z1] at g1;exact ⟨(b2.block _ (by omega)).trans g0,g1,b1.trans (b2.mono (by omega))⟩
end
theorem nu.pastIs{g:Nat}{c:fT}{u:World}{ha ia fa la ka:Option Addr}{hn hc im ic fn fc ln lc kn kc:Nat}(k:nu g c ⟨ha,hn,hc,ia,im,ic,fa,fn,fc,la,ln,lc,ka,kn,kc⟩ u):tH u (.agg #[.slice fa fn fc,.slice la ln lc]) c.past:=⟨_,_,rfl,k.seq.f,k.seq.l⟩
theorem nu.storeIs{g:Nat}{c:fT}{u:World}{ha ia fa la ka:Option Addr}{hn hc im ic fn fc ln lc kn kc:Nat}(k:nu g c ⟨ha,hn,hc,ia,im,ic,fa,fn,fc,la,ln,lc,ka,kn,kc⟩ u):qV u (.agg #[.slice ha hn hc,.slice ia im ic]) c.store:=⟨_,_,rfl,k.seq.h,k.seq.i⟩
structure uI(N:Nat)(c:fT)(s:pQ)(u:World):Prop where
 all:∃ L M,N<=L/\L<=M/\M<=u.heap.size/\Sq gL (fun b=>N<=b/\b<L) u (.slice s.ha s.hn s.hc) c.store.heard/\Sq gG (fun b=>N<=b/\b<L) u (.slice s.ia s.im s.ic) c.store.items/\Sq gL (fun b=>N<=b/\b<L) u (.slice s.fa s.fn s.fc) c.past.floor/\
  iO (fun b=>L<=b/\b<M) gV L u (.slice s.la s.ln s.lc) c.past.list/\(∀ k,(Value.slice s.la s.ln s.lc).ownBlock=some k ->k<M)/\iO (fun b=>M<=b) oM M u (.slice s.ka s.kn s.kc) c.known
theorem uI.below{N:Nat}{c:fT}{s:pQ}{u u':World}(h:uI N c s u)(hb:Below u.heap.size u u'):uI N c s u':=by
 obtain ⟨L,M,h1,h2,h3,k1,k2,k3,k4,k5,k6⟩:=h.all;exact ⟨L,M,h1,h2,ak h3 hb.size,k1.agree fun b h=>hb.block b (by omega),k2.agree fun b h=>hb.block b (by omega),k3.agree fun b h=>hb.block b (by omega),k4.below hb (ah _),k5,k6.below hb (ah _)⟩
theorem uI.mono{N N':Nat}{c:fT}{s:pQ}{u:World}(h:uI N c s u)(hN:N'<=N):uI N' c s u:=by
 obtain ⟨L,M,h1,h2,h3,k1,k2,k3,k4,k5,k6⟩:=h.all;exact ⟨L,M,ak hN h1,h2,h3,k1.mono fun b h=>⟨ak hN h.1,h.2⟩,k2.mono fun b h=>⟨ak hN h.1,h.2⟩,k3.mono fun b h=>⟨ak hN h.1,h.2⟩,k4,k5,k6⟩
theorem uI.but{N g:Nat}{c:fT}{s:pQ}{u u':World}(h:uI N c s u)(hg:g<N)(hb:∀ b,b≠g ->u'.heap[b]? =u.heap[b]?)(hz:u'.heap.size=u.heap.size):uI N c s u':=by
 obtain ⟨L,M,h1,h2,h3,k1,k2,k3,k4,k5,k6⟩:=h.all;refine ⟨L,M,h1,h2,by omega,k1.agree fun b h=>hb b (by omega),k2.agree fun b h=>hb b (by omega),k3.agree fun b h=>hb b (by omega),k4.kept (by omega) fun b _ h=>hb b ?_,k5,k6.kept (by omega) fun b _ h=>hb b ?_⟩
 ·rcases h with h|h<;>omega
 ·rcases h with h|h<;>omega
theorem uI.at{N:Nat}{c:fT}{s:pQ}{u:World}(h:uI N c s u):nE (fun b=>N<=b/\b<u.heap.size) c s u:=by
 obtain ⟨L,M,h1,h2,h3,k1,k2,k3,k4,k5,k6⟩:=h.all;exact ⟨k1.mono fun b h=>by omega,k2.mono fun b h=>by omega,k3.mono fun b h=>by omega,((k4.imp fun b h=>h.1).sq fun b h _=>h).mono fun b h=>by omega,(k6.sq fun b h _=>h).mono fun b h=>by omega⟩
def GQ(w:World)(c:fT)(e:Ending)(w':World):Prop:=∃ s,e= .returned (.agg (fP c s))/\nE (fun b=>w.heap.size<=b/\b<w'.heap.size) c s w'/\Below w.heap.size w w'
def Pt(w:World)(c:fT)(e:Ending)(w':World):Prop:=∃ s,e= .returned (.agg (fP c s))/\uI w.heap.size c s w'/\Below w.heap.size w w'
def xZ(w:World)(c:fT)(k:Int)(e:Ending)(w':World):Prop:=∃ s,e= .returned (.tuple #[.agg (fP c s),.int .i64 k])/\nE (fun b=>w.heap.size<=b/\b<w'.heap.size) c s w'/\Below w.heap.size w w'
end Go.Proofs.YtfgcodcablpdcaaGreat