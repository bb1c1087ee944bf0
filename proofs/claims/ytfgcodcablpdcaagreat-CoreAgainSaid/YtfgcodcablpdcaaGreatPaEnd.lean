import Derived.Test.YtfgcodcablpdcaaGreatStBh
set_option linter.unusedVariables false
namespace Go.Proofs.YtfgcodcablpdcaaGreat
open Go.Proofs.Tryz
open Go.RowKit Plain
theorem Xe{α:Type}(L:El α)(w:World):(zeroValue L.E).run prog w= .ok L.zero w:=by
 obtain ⟨i0,hi,hz0,-,-⟩:=Co L;simp [zeroValue,typeInfo,hi,hz0]
theorem Oq{α:Type}(L:El α)(hone:∀ u∈L.zero.cells,u.oneCell'=true)(w:World)(ty:TypeId)(b o n c:Nat)(hn:0<n)(hc:∀ j,j<n*L.k ->(w.cell? ⟨b,o+j,none⟩).isSome=true)(hf:∀ j,j<n*L.k ->w.frozen? ⟨b,o+j,none⟩=false):
  (Builtin.clear_ #[L.S] ty #[.slice (some ⟨b,o,none⟩) n c]).run prog w= .ok (.tuple #[]) (w.setCells b o (Builtin.zeroCells L.zero.cells n).toList):=by
 have hl:(Builtin.zeroCells L.zero.cells n).toList.length=n*L.k:=by rw [eH,size_zeroCells,L.tV]
 have hst:=run_storeCells_cells (P:=prog) b o (Builtin.zeroCells L.zero.cells n).toList 0 w (by rw [hl];simpa using hc) (by rw [hl];simpa using hf) (fun v hv=>by
  have:v∈L.zero.cells:=by
   unfold Builtin.zeroCells at hv;rw [Array.mem_toList_iff,Array.mem_map] at hv;obtain ⟨i,-,rfl⟩:=hv;have hz:i%L.zero.cells.size<L.zero.cells.size:=Nat.mod_lt _ (by rw [L.tV];exact L.pos);rw [getElem!_pos L.zero.cells _ hz];exact Array.getElem_mem _
  exact hone v this)
 simp only [fF] at hst
 obtain ⟨m,rfl⟩:∃ m,n=m+1:=⟨n-1,by omega⟩;simp [Builtin.clear_,run_underlying L.und,Xe L w,hst]
theorem CV{α:Type}(L:El α)(w:World)(ty:TypeId)(a:Option Addr)(c:Nat):(Builtin.clear_ #[L.S] ty #[.slice a 0 c]).run prog w= .ok (.tuple #[]) w:=by
 cases a with
 |none=>simp [Builtin.clear_,run_underlying L.und]
 |some a=>simp [Builtin.clear_,run_underlying L.und]
theorem below_setCells{B b:Nat}(hB:B<=b):∀ (vs:List Value) (o:Nat) (w:World),Below B w (w.setCells b o vs)
 |[],_,w=>aj _ _
 |v::r,o,w=>((aj B w).setCell (p:=⟨b,o,none⟩) hB v).trans ((below_setCells hB r (o+1) _).mono (ah _))
theorem size_setCells(b:Nat):∀ (vs:List Value) (o:Nat) (w:World),(w.setCells b o vs).heap.size=w.heap.size
 |[],_,w=>rfl
 |v::r,o,w=>by rw [World.setCells,size_setCells b r];simp [World.setCell]
section
variable {α:Type} {L:El α} {B:Nat} {w:World} {rb n cap:Nat} {ys:List α}
theorem gy.cut(h:gy L B w (.slice (some ⟨rb,0,none⟩) n cap) ys){i:Nat}(hi:i<=n):gy L B w (.slice (some ⟨rb,0,none⟩) i cap) (ys.take i):=by
 have hn:=h.seq.iY.1;obtain ⟨vals,ho,hr⟩:=h;have hl:(ys.take i).length=i:=by rw [aO];omega
 refine ⟨vals.take (i*L.k),⟨by rw [hl,aO,ho.1,hn];exact Nat.min_eq_left (bN _ hi),.inr ?_⟩,(hr.take i).mono fun b hb=>hb⟩
 rcases ho.2 with ⟨e,-⟩|⟨g,cap',cur,hv,hb,hg,hnc,hcm,hcs,ht⟩
 ·cases e
 ·simp only [aC,bS,Addr.mk.injEq,and_true] at hv
  obtain ⟨rfl,hn2,rfl⟩:=hv;refine ⟨rb,cap,cur,by rw [hl],hb,hg,by rw [hl];omega,hcm,hcs,?_⟩;rw [hl,<-ht,List.take_take]
  congr 1
  exact (Nat.min_eq_left (bN _ (by omega))).symm
theorem gy.setOut(h:gy L B w (.slice (some ⟨rb,0,none⟩) n cap) ys){o:Nat}(ho:n*L.k<=o)(u:Value):gy L B (w.setCell ⟨rb,o,none⟩ u) (.slice (some ⟨rb,0,none⟩) n cap) ys:=by
 have hn:=h.seq.iY.1;obtain ⟨vals,hv,hr⟩:=h;subst hn;have hs:(w.setCell ⟨rb,o,none⟩ u).heap.size=w.heap.size:=by simp [World.setCell]
 have h1:=(bQ hv o u).1;rw [List.set_eq_of_length_le (by rw [hv.1];exact ho)] at h1;exact ⟨vals,h1,(hr.agree fun b hb=>aN _ _ _ _ fun e=>hb.2 (by rw [e];rfl)).mono fun b hb=>⟨by rw [hs];exact hb.1,hb.2⟩⟩
theorem gy.Sj:∀ (vs:List Value) {w:World} {o:Nat},gy L B w (.slice (some ⟨rb,0,none⟩) n cap) ys ->n*L.k<=o ->gy L B (w.setCells rb o vs) (.slice (some ⟨rb,0,none⟩) n cap) ys
 |[],_,_,h,_=>h
 |v::r,_,_,h,ho=>gy.Sj r (h.setOut ho v) (by omega)
theorem gy.there(h:gy L B w (.slice (some ⟨rb,0,none⟩) n cap) ys){j:Nat}(hj:j<n*L.k):(w.cell? ⟨rb,j,none⟩).isSome=true:=by
 have hn:=h.seq.iY.1;obtain ⟨vals,hv,hr⟩:=h;subst hn;rw [bI hv j hj,au (by rw [hv.1];exact hj)]
 rfl
theorem gy.bare(h:gy L B w (.slice (some ⟨rb,0,none⟩) n cap) ys)(j:Nat):w.frozen? ⟨rb,j,none⟩=false:=by
 have hn:=h.seq.iY.1;obtain ⟨vals,hv,hr⟩:=h;subst hn;exact dh hv j
end
theorem pt_put4(vals:List Value)(k j:Nat)(a b c d:Value)(hk:(k+1)*4<=vals.length):pt 4 ((((vals.set (k*4) a).set (k*4+1) b).set (k*4+2) c).set (k*4+3) d) j=if j=k then [a,b,c,d] else pt 4 vals j:=by
 apply eF
 intro i
 by_cases hi:i<4
 ·rw [lH _ _ _ hi]
  simp only [dx,aX]
  by_cases e:j=k
  ·subst e
   rw [if_pos rfl]
   match i,hi with
   |0,_=>rw [if_neg (by omega),if_neg (by omega),if_neg (by omega),if_pos (by omega),if_pos (by omega)];rfl
   |1,_=>rw [if_neg (by omega),if_neg (by omega),if_pos rfl,if_pos (by omega)];rfl
   |2,_=>rw [if_neg (by omega),if_pos rfl,if_pos (by omega)];rfl
   |3,_=>rw [if_pos rfl,if_pos (by omega)];rfl
  ·rw [if_neg e,if_neg (by omega),if_neg (by omega),if_neg (by omega),if_neg (by omega),lH _ _ _ hi]
 ·have h1:(pt 4 ((((vals.set (k*4) a).set (k*4+1) b).set (k*4+2) c).set (k*4+3) d) j).length<=4:=by unfold pt;rw [aO];omega
  rw [aW (by omega)]
  split
  ·rw [aW (by simp;omega)]
  ·have h2:(pt 4 vals j).length<=4:=by unfold pt;rw [aO];omega
   rw [aW (by omega)]
def Jw(w:World)(g o:Nat)(a b c d:Value):World:=(((w.setCell ⟨g,o,none⟩ a).setCell ⟨g,o+1,none⟩ b).setCell ⟨g,o+2,none⟩ c).setCell ⟨g,o+3,none⟩ d
theorem ZJ(w:World)(g o:Nat)(a b c d:Value):(Jw w g o a b c d).heap.size=w.heap.size:=by simp [Jw,World.setCell]
theorem VD(w:World)(g o:Nat)(a b c d:Value){k:Nat}(h:k≠g):(Jw w g o a b c d).heap[k]? =w.heap[k]? :=by
 have e:∀ (u:World) (i:Nat) (x:Value),(u.setCell ⟨g,i,none⟩ x).heap[k]? =u.heap[k]? :=fun u i x=>aN _ _ _ _ h
 exact (e _ _ _).trans ((e _ _ _).trans ((e _ _ _).trans (e _ _ _)))
theorem VB{B:Nat}(w:World){g:Nat}(hB:B<=g)(o:Nat)(a b c d:Value):Below B w (Jw w g o a b c d):=
 ((((aj B w).setCell (p:=⟨g,o,none⟩) hB a).setCell (p:=⟨g,o+1,none⟩) hB b).setCell (p:=⟨g,o+2,none⟩) hB c).setCell (p:=⟨g,o+3,none⟩) hB d
section
variable {B:Nat} {w:World} {rb n cap:Nat} {ys:List fI}
theorem gy.txnAt(h:gy gV B w (.slice (some ⟨rb,0,none⟩) n cap) ys){j:Nat}{x:fI}(hj:ys[j]? =some x):
  ∃ da dn dc ea en ec,xU w rb (j*4) x (.slice da dn dc) (.slice ea en ec)/\Sq gL (fun b=>b<w.heap.size/\b≠rb) w (.slice da dn dc) x.deps/\Sq jo (fun b=>b<w.heap.size/\b≠rb) w (.slice ea en ec) x.effs:=by
 have hn:=h.seq.iY.1;subst hn;obtain ⟨vals,ho,hr⟩:=h;obtain ⟨dv,ev,e,hd,he⟩:=hr.2 j x hj;have hlt:j<ys.length:=(aP.1 hj).1;have g:∀ i v,i<4 ->(rA x dv ev)[i]? =some v ->w.cell? ⟨rb,j*4+i,none⟩=some v:=fun i v hi hv=>by
  rw [bI ho (j*4+i) (show _<ys.length*4 by omega),<-lH (k:=4) vals j i hi];have e':pt 4 vals j=rA x dv ev:=e;rw [e',hv]
 have hb:∀ b,(b<w.heap.size/\(Value.slice (some ⟨rb,0,none⟩) ys.length cap).ownBlock≠some b) ->b<w.heap.size/\b≠rb:=fun b hb=>⟨hb.1,fun e=>hb.2 (by rw [e];rfl)⟩
 obtain ⟨da,dc,rfl,-⟩:=fM.parts (L:=gL) (hd.mono fun b hb=>hb.1);obtain ⟨ea,ec,rfl,-⟩:=fM.parts (L:=jo) (he.mono fun b hb=>hb.1);exact ⟨_,_,_,_,_,_,⟨g 0 _ (by omega) rfl,g 1 _ (by omega) rfl,g 2 _ (by omega) rfl,g 3 _ (by omega) rfl⟩,hd.mono hb,he.mono hb⟩
theorem gy.Jw(h:gy gV B w (.slice (some ⟨rb,0,none⟩) n cap) ys){i:Nat}(hi:i<n){x:fI}{dv ev:Value}(hd:Sq gL (fun b=>b<w.heap.size/\b≠rb) w dv x.deps)(he:Sq jo (fun b=>b<w.heap.size/\b≠rb) w ev x.effs):
  gy gV B (Jw w rb (i*4) (.int .i64 x.node) (.int .i64 x.seq) dv ev) (.slice (some ⟨rb,0,none⟩) n cap) (ys.set i x):=by
 have hn:=h.seq.iY.1;subst hn;obtain ⟨vals,ho,hr⟩:=h;have h1:=(bQ ho (i*4) (.int .i64 x.node)).1;have h2:=(bQ h1 (i*4+1) (.int .i64 x.seq)).1;have h3:=(bQ h2 (i*4+2) dv).1;have h4:=(bQ h3 (i*4+3) ev).1;have hvl:vals.length=ys.length*4:=hr.1;have hlen:=h4.1;have hne:∀ b,b≠rb ->(Go.Proofs.YtfgcodcablpdcaaGreat.Jw w rb (i*4) (.int .i64 x.node) (.int .i64 x.seq) dv ev).heap[b]? =w.heap[b]? :=fun b e=>VD _ _ _ _ _ _ _ e
 have hsz:=ZJ w rb (i*4) (.int .i64 x.node) (.int .i64 x.seq) dv ev;have hback:∀ b,b<w.heap.size/\b≠rb ->b<(Go.Proofs.YtfgcodcablpdcaaGreat.Jw w rb (i*4) (.int .i64 x.node) (.int .i64 x.seq) dv ev).heap.size/\(Value.slice (some ⟨rb,0,none⟩) ys.length cap).ownBlock≠some b:=fun b hb=>⟨by rw [hsz];exact hb.1,fun e=>hb.2 (by cases e;rfl)⟩
 have hold:∀ b,b<w.heap.size/\(Value.slice (some ⟨rb,0,none⟩) ys.length cap).ownBlock≠some b ->b<w.heap.size/\b≠rb:=fun b hb=>⟨hb.1,fun e=>hb.2 (by rw [e];rfl)⟩
 have hyl:(ys.set i x).length=ys.length:=aX;refine ⟨_,by rw [hyl];exact h4,⟨by rw [hyl];exact hlen,fun j y hj=> ?_⟩⟩
 show Kc _ _ (pt 4 _ j) y
 rw [pt_put4 vals i j _ _ _ _ (by omega)];rw [dx] at hj
 by_cases e:j=i
 ·subst e
  rw [if_pos rfl,if_pos hi] at hj;obtain rfl:=dN hj;rw [if_pos rfl];exact ⟨dv,ev,rfl,(hd.agree fun b hb=>hne b hb.2).mono hback,(he.agree fun b hb=>hne b hb.2).mono hback⟩
 ·rw [if_neg (fun x=>e x.symm)] at hj
  rw [if_neg e];exact Br (Gr (Br (hr.2 j y hj) hold) fun b hb=>hne b hb.2) hback
end
structure mh(N:Nat)(u:World)(rb c:Nat)(xs:List fI)(k:Nat)(vals:List Value):Prop where
 own:u.ownsRow N 82 4 (.slice (some ⟨rb,0,none⟩) xs.length c) xs.length vals
 len:vals.length=xs.length*4
 each:∀ j x,xs[j]? =some x ->Kc (fun b=>(j<k ->N<=b)/\b<u.heap.size/\b≠rb) u (pt 4 vals j) x
section
variable {N:Nat} {u u':World} {rb c:Nat} {xs:List fI} {k:Nat} {vals:List Value}
theorem mh.start(h:gy gV N u (.slice (some ⟨rb,0,none⟩) xs.length c) xs):∃ vals,mh N u rb c xs 0 vals:=by
 obtain ⟨vals,ho,hr⟩:=h;exact ⟨vals,ho,hr.1,fun j x hj=>Br (hr.2 j x hj) fun b hb=>⟨fun h=>absurd h (Nat.not_lt_zero _),hb.1,fun e=>hb.2 (by rw [e];rfl)⟩⟩
theorem mh.below(h:mh N u rb c xs k vals)(hb:Below u.heap.size u u'):mh N u' rb c xs k vals:=by
 refine ⟨⟨h.own.1,?_⟩,h.len,fun j x hj=>Br (Gr (h.each j x hj) fun b hl=>hb.block b hl.2.1) fun b hl=>⟨hl.1,ay hl.2.1 hb.size,hl.2.2⟩⟩
 rcases h.own.2 with hn|⟨g,cap,cur,hv,hb',hg,hr'⟩
 ·exact .inl hn
 ·exact .inr ⟨g,cap,cur,hv,hb',(hb.block g (aH.1 hg).1).trans hg,hr'⟩
theorem mh.lt(h:mh N u rb c xs k vals):N<=rb/\rb<u.heap.size:=fG h.own rb rfl
theorem mh.at(h:mh N u rb c xs k vals){j:Nat}{x:fI}(hj:xs[j]? =some x):
  ∃ da dn dc ea en ec,xU u rb (j*4) x (.slice da dn dc) (.slice ea en ec)/\Sq gL (fun b=>b<u.heap.size/\b≠rb) u (.slice da dn dc) x.deps/\Sq jo (fun b=>b<u.heap.size/\b≠rb) u (.slice ea en ec) x.effs:=by
 obtain ⟨dv,ev,e,hd,he⟩:=h.each j x hj;have hlt:j<xs.length:=(aP.1 hj).1;have g:∀ i v,i<4 ->(rA x dv ev)[i]? =some v ->u.cell? ⟨rb,j*4+i,none⟩=some v:=fun i v hi hv=>by
  rw [bI h.own (j*4+i) (by omega),<-lH vals j i hi,e,hv]
 obtain ⟨da,dc,rfl,-⟩:=fM.parts (L:=gL) (hd.mono fun b hb=>hb.2.1);obtain ⟨ea,ec,rfl,-⟩:=fM.parts (L:=jo) (he.mono fun b hb=>hb.2.1);exact ⟨_,_,_,_,_,_,⟨g 0 _ (by omega) rfl,g 1 _ (by omega) rfl,g 2 _ (by omega) rfl,g 3 _ (by omega) rfl⟩,hd.mono fun b hb=>hb.2,he.mono fun b hb=>hb.2⟩
theorem pt_two4(vals:List Value)(k j:Nat)(c d:Value)(hk:(k+1)*4<=vals.length):pt 4 ((vals.set (k*4+2) c).set (k*4+3) d) j=if j=k then ((pt 4 vals k).set 2 c).set 3 d else pt 4 vals j:=by
 have hl:(pt 4 vals k).length=4:=by unfold pt;rw [aO,bB];omega
 apply eF
 intro i
 by_cases hi:i<4
 ·rw [lH _ _ _ hi]
  by_cases e:j=k
  ·subst e
   rw [if_pos rfl];simp only [dx,aX,hl]
   match i,hi with
   |0,_=>rw [if_neg (by omega),if_neg (by omega),if_neg (by omega),if_neg (by omega),lH _ _ _ (by omega)]
   |1,_=>rw [if_neg (by omega),if_neg (by omega),if_neg (by omega),if_neg (by omega),lH _ _ _ (by omega)]
   |2,_=>rw [if_neg (by omega),if_pos rfl,if_pos (by omega),if_neg (by omega),if_pos rfl,if_pos (by omega)]
   |3,_=>rw [if_pos rfl,if_pos (by omega),if_pos rfl,if_pos (by omega)]
  ·rw [if_neg e]
   simp only [dx,aX]
   rw [if_neg (by omega),if_neg (by omega),lH _ _ _ hi]
 ·have h1:(pt 4 ((vals.set (k*4+2) c).set (k*4+3) d) j).length<=4:=by unfold pt;rw [aO];omega
  rw [aW (by omega)]
  split
  ·rw [aW (by rw [aX,aX,hl];omega)]
  ·have h2:(pt 4 vals j).length<=4:=by unfold pt;rw [aO];omega
   rw [aW (by omega)]
theorem mh.set(h:mh N u rb c xs k vals){x:fI}(hk:xs[k]? =some x){dv ev:Value}(hd:Sq gL (fun b=>N<=b/\b<u.heap.size/\b≠rb) u dv x.deps)(he:Sq jo (fun b=>N<=b/\b<u.heap.size/\b≠rb) u ev x.effs):
  mh N ((u.setCell ⟨rb,k*4+2,none⟩ dv).setCell ⟨rb,k*4+3,none⟩ ev) rb c xs (k+1) ((vals.set (k*4+2) dv).set (k*4+3) ev):=by
 have hlt:k<xs.length:=(aP.1 hk).1;have hs:((u.setCell ⟨rb,k*4+2,none⟩ dv).setCell ⟨rb,k*4+3,none⟩ ev).heap.size=u.heap.size:=by simp [World.setCell]
 have hvl:=h.len;have e1:∀ (u:World) (i:Nat) (x:Value) b,b≠rb ->(u.setCell ⟨rb,i,none⟩ x).heap[b]? =u.heap[b]? :=fun u i x b hb=>aN _ _ _ _ hb
 have hne:∀ b,b≠rb ->((u.setCell ⟨rb,k*4+2,none⟩ dv).setCell ⟨rb,k*4+3,none⟩ ev).heap[b]? =u.heap[b]? :=fun b e=>(e1 _ _ _ _ e).trans (e1 _ _ _ _ e)
 refine ⟨(bQ (bQ h.own (k*4+2) dv).1 (k*4+3) ev).1,by rw [aX,aX];exact h.len,fun j y hj=> ?_⟩;rw [pt_two4 vals k j dv ev (by omega)]
 by_cases e:j=k
 ·subst e
  rw [hk] at hj
  cases hj
  rw [if_pos rfl];obtain ⟨dv0,ev0,e0,-⟩:=h.each j x hk;rw [e0];exact ⟨dv,ev,rfl,(hd.agree fun b hb=>hne b hb.2.2).mono fun b hb=>⟨fun _=>hb.1,by rw [hs];exact hb.2.1,hb.2.2⟩,(he.agree fun b hb=>hne b hb.2.2).mono fun b hb=>⟨fun _=>hb.1,by rw [hs];exact hb.2.1,hb.2.2⟩⟩
 ·rw [if_neg e]
  exact Br (Gr (h.each j y hj) fun b hb=>hne b hb.2.2) fun b hb=>⟨fun hl=>hb.1 (by omega),by rw [hs];exact hb.2.1,hb.2.2⟩
theorem mh.WH(h:mh N u rb c xs xs.length vals):iO (fun b=>N<=b) gV N u (.slice (some ⟨rb,0,none⟩) xs.length c) xs:=
 ⟨vals,h.own,h.len,fun j x hj=>Br (h.each j x hj) fun b hb=>⟨hb.1 (aP.1 hj).1,hb.2.1,fun e=>hb.2.2 (dN e).symm⟩⟩
theorem mh.bare(h:mh N u rb c xs k vals)(j:Nat):u.frozen? ⟨rb,j,none⟩=false:=dh h.own j
theorem mh.iY(h:mh N u rb c xs k vals):xs.length<=c/\c<=9223372036854775807:=by
 rcases h.own.2 with ⟨e,-⟩|⟨g,cap,cur,hv,hb',hg,hnc,hcm,hcs,ht⟩
 ·cases e
 ·simp only [aC,bS,Addr.mk.injEq,and_true,true_and] at hv
  obtain ⟨rfl,rfl⟩:=hv;exact ⟨hnc,hcm⟩
end
end Go.Proofs.YtfgcodcablpdcaaGreat
set_option maxRecDepth 100000
set_option maxHeartbeats 64000000
namespace Go.Proofs.YtfgcodcablpdcaaGreat
open Go.Proofs.Tryz
open Go.RowKit Plain
theorem yN{a:Option Addr}{n m c:Nat}{w:World}(hm:m=min n 8)(hc:n<=c):Calls prog 87 #[.slice a n c] w fun e w'=>e= .returned (.slice a m c)/\w=w':=by
 have M1:min (n:Int) 8=(m:Int):=by omega
 have i1:(m:Int)<=c:=by omega
 clear hm hc;go_enter func87,ntmps87
 go_wp2_with fail
 go_ret
 exact ⟨rfl,rfl⟩
def Sk:Nat ->Nat ->Ints ->Ints
 |_,0,xs=>xs
 |o,m+1,xs=>Sk (o+1) m (xs.set o 0)
theorem set_getD(xs:Ints)(o i:Nat):(xs.set o 0).getD i 0=if i=o then 0 else xs.getD i 0:=by
 simp only [fB,dx]
 by_cases h:i=o
 ·subst h
  rw [if_pos rfl,if_pos rfl]
  by_cases hl:i<xs.length
  ·rw [if_pos hl];rfl
  ·rw [if_neg hl];rfl
 ·rw [if_neg (fun e=>h e.symm),if_neg h]
theorem Mf:∀ (m o:Nat) (xs:Ints) (i:Nat),(Sk o m xs).getD i 0=if o<=i/\i<o+m then 0 else xs.getD i 0
 |0,o,xs,i=>by rw [if_neg (by omega)];rfl
 |m+1,o,xs,i=>by
  rw [Sk,Mf m (o+1) _ i,set_getD]
  by_cases h:i=o
  ·subst h
   rw [if_neg (by omega),if_pos rfl,if_pos (by omega)]
  ·rw [if_neg h]
   by_cases h2:o+1<=i/\i<o+1+m
   ·rw [if_pos h2,if_pos (by omega)]
   ·rw [if_neg h2,if_neg (by omega)]
theorem Sl:∀ (m o:Nat) (xs:Ints),(Sk o m xs).length=xs.length
 |0,_,_=>rfl
 |m+1,o,xs=>by rw [Sk,Sl m,aX]
theorem Jy{B g n c:Nat}:∀ (m o:Nat) (xs:Ints) (w:World),gI B w (.slice (some ⟨g,0,none⟩) n c) xs ->gI B (w.setCells g o (List.replicate m (.int .i64 0))) (.slice (some ⟨g,0,none⟩) n c) (Sk o m xs)
 |0,_,_,_,h=>h
 |m+1,o,xs,w,h=>Jy m (o+1) _ _ (h.set o 0)
theorem ownsI_of{B:Nat}{w:World}{v:Value}{xs:Ints}(h:gy gL B w v xs):gI B w v xs:=by
 obtain ⟨vals,ho,hr⟩:=h;have hl:vals.length=xs.length*1:=hr.1;have e:vals=xs.map (Value.int .i64):=by
  apply bT
  ·rw [dH];omega
  ·intro j h1 h2
   have h':pt 1 vals j=[.int .i64 xs[j]]:=hr.2 j xs[j] (au (by omega));have h3:=lH (k:=1) vals j 0 (by omega);rw [h',eY,fF,au h1] at h3
   simpa using h3.symm
 rw [e] at ho;exact ho
theorem ZK(xs:Ints)(i:Nat):says (Sk 0 (min xs.length 8) xs) i=if i<8 then 0 else says xs i:=by
 unfold says;rw [Mf]
 by_cases h:i<8
 ·rw [if_pos h]
  by_cases h2:i<xs.length
  ·rw [if_pos (by omega)];rfl
  ·rw [if_neg (by omega),wC _ _ (by omega)];rfl
 ·rw [if_neg h,if_neg (by omega)]
theorem pEnd_by{p:jV}{o:Ints}(h:∀ i,says o i=if i<8 then 0 else says p.floor i):join (jd (p.floor.take 8) p.list) o=oF p:=by
 rw [<-pEnd_way];refine pz (oP _ _) (oP _ _) fun i=> ?_
 rw [lU,lU,h,BN]
theorem end_go{v:Ints}{l:List fI}{k:Nat}(hk:k<l.length):gZ (jd v (l.take k)) (jr l k)=jd v (l.take (k+1)):=by
 rw [kX hk,take_at hk,Ab]
theorem Du{v:Value}{p:jV}{w:World}(h:tH w v p)(hl:p.floor.length<=1000000)(hn:p.list.length<=1000000):Calls prog 32 #[v] w (ED w (oF p)):=by
 obtain ⟨fa,fn,fc,la,ln,lc,rfl,h1,h2⟩:=h.slices;have PB:=zH (zM (p:=p) h1 h2);have B0:=zH (zB w (.cells #[.slice fa fn fc,.slice la ln lc] 31));have DF:=zH h1.iY;have DL:=zH h2.iY;have HL:=zH hl;obtain ⟨fl,hfl⟩:∃ f,f=p.floor:=⟨_,rfl⟩;obtain ⟨l,hll⟩:∃ l,l=p.list:=⟨_,rfl⟩;have HE:Hid (∀ o:Ints,(∀ i,says o i=if i<8 then 0 else says fl i) ->join (jd (fl.take 8) l) o=oF p):=zH (fun o ho=>by rw [hfl,hll];exact pEnd_by (by rw [<-hfl];exact ho));have HFL:=zH hfl;have HLL:=zH hll;rw [<-hfl] at DF HL;rw [<-hll] at DL;have HNL:Hid (l.length<=1000000):=zH (by rw [hll];exact hn);clear h h1 h2 hl hn hfl hll;go_enter func32,ntmps32
 go_upto_region 1 with fail
 generalize (w.alloc _)=wb at*;obtain ⟨m,hm⟩:∃ m,m=min fn 8:=⟨_,rfl⟩;have HM:=zH hm;have F0:Hid (gQ wb (.slice fa fn fc) fl):=zH (by rw [HFL.o];exact gW PB.o.f);have F8:Hid (gQ wb (.slice fa m fc) (fl.take 8)):=zH (by
  have h8:=F0.o.first m (by have:=DF.o.1;omega)
  rwa [show fl.take m=fl.take 8 by
   by_cases h:fn<=8
   ·rw [cZ (show fl.length<=m by have:=DF.o.1;omega),cZ (by have:=DF.o.1;omega)]
   ·rw [show m=8 by omega]] at h8)
 have L0:Hid (fM gV wb (.slice la ln lc) l):=zH (by rw [HLL.o];exact PB.o.l);obtain ⟨c0,c1⟩:=PB.o.c;have KO:=zH (yN (a:=fa) (w:=wb) hm DF.o.2.1);clear hm;go_wp2_with fail
 refine KO.o.mono ?_;rintro e w1 ⟨rfl,rfl⟩;have i1:(ln:Int)<=lc:=by have:=DL.o;omega
 have i2:(lc:Int)<=9223372036854775807:=by have:=DL.o;omega
 go_wp2_with fail
 clear c0 c1 KO
 go_loopw [3,13] (fun s0 i wr=>∃ (k:Nat) (u:Ints),k<=ln/\i= .int .i64 k/\gQ wr s0 u/\Aside (u=jd (fl.take 8) (l.take k)/\u.length<=1000000/\Below wb.heap.size wb wr)) (fun _ i _=>ln-(intOf i).toNat)
 case atStart=>exact ⟨0,fl.take 8,aL _,rfl,F8.o,rfl,by rw [aO];omega,aj _ _⟩
 case round=>
  obtain ⟨k,u,hk,rfl,hs,hrel⟩:=hrel;obtain ⟨h2,h3,h4⟩:=Aside.out hrel;have C2:=zH h2;have C3:=zH h3;have GB:=zH h4;have SU:=zH hs;obtain ⟨ua,uc,rfl,-,-,-,-⟩:=hs.parts;clear hrel h2 h3 h4 hs
  by_cases hlt:k<ln
  ·have hkl:k<l.length:=by rw [DL.o.1];exact hlt
   obtain ⟨lb,lo,rfl,hc⟩:=CP L0.o (by omega);obtain ⟨da,dn,dc,ea,en,ec,hW⟩:=hc k hlt;have GO:Hid (gZ u (jr l k)=jd (fl.take 8) (l.take (k+1))):=zH (by rw [C2.o];exact end_go hkl);have NL:Hid ((gZ u (jr l k)).length<=1000000):=zH (by have:=tu u (jr l k);have:=C3.o;omega);have KN:=zH (fun W (hb:Below wr.heap.size wr W)=>xw (SU.o.below hb) (hW W (GB.o.trans (hb.mono GB.o.size))).2 C3.o);obtain ⟨c0,c1,c2,c3⟩:=(hW wr GB.o).1;have k1:(k:Int)<ln:=by omega
   clear hc hW hkl;generalize jr l k=t at*;have BE:=zH (zB wr (.cells #[.int .i64 t.node,.int .i64 t.seq,.slice da dn dc,.slice ea en ec] 82));have BX:=zH (aM wr (.cells #[.int .i64 t.node,.int .i64 t.seq,.slice da dn dc,.slice ea en ec] 82));go_upto_region 5 with fail
   clear c0 c1 c2 c3;generalize (wr.alloc _)=wd at*;have d0:wd.cell? ⟨wr.heap.size,0,none⟩=some (.int .i64 t.node):=cell_of_row _ _ 0 _ _ _ BX.o;have d1:wd.cell? ⟨wr.heap.size,1,none⟩=some (.int .i64 t.seq):=cell_of_row _ _ 1 _ _ _ BX.o;have d2:wd.cell? ⟨wr.heap.size,2,none⟩=some (.slice da dn dc):=cell_of_row _ _ 2 _ _ _ BX.o;have d3:wd.cell? ⟨wr.heap.size,3,none⟩=some (.slice ea en ec):=cell_of_row _ _ 3 _ _ _ BX.o;have KN2:=zH (KN.o wd BE.o);go_wp2_with fail
   refine KN2.o.mono ?_;rintro e w3 ⟨v3,rfl,ho3,hb3⟩;have S3:=zH ho3.seq;have H3:=zH (BE.o.trans (hb3.mono BE.o.size));clear ho3 hb3 KN2 d0 d1 d2 d3;go_wp2_with fail
   go_roundw
   case rel=>exact ⟨k+1,_,by omega,by go_num,S3.o,GO.o,NL.o,GB.o.trans (H3.o.mono GB.o.size)⟩
   case measure=>simp [intOf];omega
  ·obtain rfl:k=ln:=by omega
   have UE:Hid (u=jd (fl.take 8) l):=zH (by rw [C2.o];congr 1;exact cZ (by have:=DL.o.1;omega));have PB2:=zH (PB.o.below GB.o);obtain ⟨c0,c1⟩:=PB2.o.c;have KC:=zH (nL (N9 (F0.o.below GB.o)) (by have:=HL.o;omega));go_upto_region 8 with (go_at_call 89;refine KC.o.mono ?_;rintro e w4 ⟨v4,rfl,ho4,hb4⟩;have O4:=zH ho4;have G4:=zH hb4;obtain ⟨oa,oc,rfl,q1,q2,-,q0⟩:=ho4.parts;clear ho4 hb4 KC c0 c1)
   obtain ⟨on,hon⟩:∃ n,n=fl.length:=⟨_,rfl⟩;rw [<-hon] at O4 q1 ⊢;have HON:=zH hon;obtain ⟨m2,hm2⟩:∃ m,m=min on 8:=⟨_,rfl⟩;have KO:=zH (yN (a:=oa) (w:=w4) hm2 q1);have HM2:=zH hm2;have q3:oc<=9223372036854775807:=q2;have KJ:Hid (∀ (W:World) (o:Ints),gQ W (.slice oa on oc) o ->o.length=on ->(∀ i,says o i=if i<8 then 0 else says fl i) ->Below w4.heap.size w4 W\/Below wr.heap.size wr W ->Calls prog 90 #[.slice ua u.length uc,.slice oa on oc] W (ED W (oF p))):=zH (fun W o ho hol hs hb=>by
    have hb':Below wr.heap.size wr W:=hb.elim (fun h=>G4.o.trans (h.mono G4.o.size)) id;have:=yH (SU.o.below hb') ho C3.o (by rw [hol,HON.o];exact HL.o);rw [UE.o] at this ⊢;rw [HE.o o hs] at this;exact this)
   have GG:Hid (Below w.heap.size w wr):=zH (B0.o.trans (GB.o.mono B0.o.size));clear hon hm2 q2 C2 UE
   by_cases hz:on=0
   ·subst hz
    obtain rfl:m2=0:=HM2.o;have FN:Hid (fl=[]):=zH (aK HON.o.symm);have hcl:∀ ty,(Builtin.clear_ #[25] ty #[.slice oa 0 oc]).run prog w4= .ok (.tuple #[]) w4:=fun ty=>CV gL w4 ty oa oc
    have KJ2:=zH (KJ.o w4 [] (gW (by have:=O4.o.seq;rw [FN.o] at this;exact this)) rfl (fun i=>by rw [FN.o];split<;>simp [says]) (.inl (aj _ _)));go_upto_region 9 with (go_at_call 87;refine KO.o.mono ?_;rintro e w5 ⟨rfl,rfl⟩)
    go_wp2_with fail
    refine KJ2.o.mono ?_;rintro e w6 ⟨v6,rfl,ho6,hb6⟩;have O6:=zH (ho6.mono (ak GG.o.size G4.o.size));have G6:=zH (GG.o.trans ((G4.o.trans (hb6.mono G4.o.size)).mono GG.o.size));clear ho6 hb6;go_wp2_with fail
    go_ret
    exact ⟨_,rfl,O6.o,G6.o⟩
   ·obtain ⟨ob,rfl⟩:∃ ob,oa=some ⟨ob,0,none⟩:=by
     obtain ⟨vals,ho,-⟩:=O4.o
     rcases ho.2 with ⟨-,h0⟩|⟨g,cap',cur,hv,-⟩
     ·rw [<-HON.o] at h0;omega
     ·simp only [aC] at hv;exact ⟨g,hv.1⟩
    have OB:=zH (O4.o.lt ob rfl);have OI:Hid (gI wr.heap.size w4 (.slice (some ⟨ob,0,none⟩) on oc) fl):=zH (ownsI_of O4.o);have hcl:∀ ty,(Builtin.clear_ #[25] ty #[.slice (some ⟨ob,0,none⟩) m2 oc]).run prog w4= .ok (.tuple #[]) (w4.setCells ob 0 (List.replicate m2 (.int .i64 0))):=fun ty=>
     Lib.run_clear_slice w4 _ _ ty _ gL.und (fun w=>Xe gL w) rfl rfl ob 0 m2 oc (by have:=HM2.o;omega) (fun j hj=>by have h1:=HM2.o;exact O4.o.there (show _<on*1 by omega)) (fun j hj=>O4.o.bare _)
    have OZ:=zH (Jy m2 0 fl w4 OI.o);have BZ:=zH (below_setCells OB.o.1 (List.replicate m2 (.int .i64 0)) 0 w4);have SZ:=zH (size_setCells ob (List.replicate m2 (.int .i64 0)) 0 w4);have HZ:Hid (∀ i,says (Sk 0 m2 fl) i=if i<8 then 0 else says fl i):=zH (by rw [HM2.o,HON.o];exact ZK fl);have GZ:Hid (Below wr.heap.size wr (w4.setCells ob 0 (List.replicate m2 (.int .i64 0)))):=zH (G4.o.trans BZ.o);clear BZ OI;generalize w4.setCells ob 0 (List.replicate m2 (.int .i64 0))=wz at*;have KJ2:=zH (KJ.o wz _ OZ.o.seq (by rw [Sl];exact HON.o.symm) HZ.o (.inr GZ.o));go_upto_region 9 with (go_at_call 87;refine KO.o.mono ?_;rintro e w5 ⟨rfl,rfl⟩)
    go_wp2_with fail
    refine KJ2.o.mono ?_;rintro e w6 ⟨v6,rfl,ho6,hb6⟩;have O6:=zH (ho6.mono (ak GG.o.size GZ.o.size));have G6:=zH (GG.o.trans ((GZ.o.trans (hb6.mono GZ.o.size)).mono GG.o.size));clear ho6 hb6;go_wp2_with fail
    go_ret
    exact ⟨_,rfl,O6.o,G6.o⟩
end Go.Proofs.YtfgcodcablpdcaaGreat