import Derived.Test.YtfgcodcablpdcaaGreatPaEnd
set_option linter.unusedVariables false
set_option maxRecDepth 100000
set_option maxHeartbeats 64000000
namespace Go.Proofs.YtfgcodcablpdcaaGreat
open Go.Proofs.Tryz
open Go.RowKit Plain
theorem yJ{P:Nat ->Prop}{u:Value}{xs:List fI}{w:World}(hu:Sq gV P w u xs)(hP:∀ b,P b ->b<w.heap.size)(hn:xs.length<=1000000):Calls prog 133 #[u] w fun e w'=>∃ v,e= .returned v/\iO P gV w.heap.size w' v xs/\Below w.heap.size w w':=by
 obtain ⟨a,cap,rfl,-,-,g0,h⟩:=fM.parts (L:=gV) (hu.mono hP);have q22:∀ (w:World) (a:Option Addr) (n c n' c':Nat),(binOp .eql 29 (.slice a n c) (.slice none n' c')).run prog w= .ok (.bool a.isNone) w:=fun w a n c n' c'=>Lib.run_eql_slice_nil w _ _ a n c n' c' underlying29
 cases a with
 |none=>
  obtain rfl:=g0 rfl;obtain rfl:xs=[]:=aK (by have:=h.iY;omega);clear hu h hP;go_enter func133,ntmps133
  go_wp2_with fail
  go_ret
  exact ⟨_,rfl,iO.nil _ _ _,aj _ _⟩
 |some ad=>
  have hB:=zB w (.cells #[] 82);have HS:Hid (Sq gV P (w.alloc (.cells #[] 82)) (.slice (some ad) xs.length cap) xs):=zH (Sq.agree hu fun b hb=>hB.block b (hP b hb));have HO:Hid (iO P gV w.heap.size (w.alloc (.cells #[] gV.E)) (.slice (some ⟨w.heap.size,0,none⟩) 0 0) []):=zH ⟨[],World.ownsRow_made w #[] 0 (ah _) (aL _) (by simp),Rows.nil _ _⟩;have HB:=zH hB;have hz:w.heap.size<=(w.alloc (.cells #[] 82)).heap.size:=by simp
  have HZ:=zH hz;have HI:Hid (∀ vs x,gV.R P (w.alloc (.cells #[] 82)) vs x ->gV.R (fun b=>P b/\b<(w.alloc (.cells #[] 82)).heap.size/\Value.ownBlock (.slice (some ⟨w.heap.size,0,none⟩) 0 0)≠some b) (w.alloc (.cells #[] 82)) vs x):=zH (fun vs x h=>gV.mono h fun b hb=>⟨hb,ay (hP b hb) hz,fun e=>by cases e;exact Nat.lt_irrefl _ (hP _ hb)⟩);clear hu h g0 hz hB hP;go_enter func133,ntmps133
  go_wp2_with (at_builtin;refine kE P gV rfl (.tmp 5) (.tmp 6) rfl w.heap.size rfl HO.o rfl HS.o HI.o (by simp;omega) HZ.o ?_)
  intro v' w2 ho' hgr _;have O3:=zH ho';have B3:=zH (HB.o.grown hgr HZ.o (fun j hj=>(HO.o.lt j hj).1));clear ho' hgr;go_wp2_with fail
  go_ret
  exact ⟨_,rfl,by simpa using O3.o,B3.o⟩
def Oo(p:fI ->Bool)(ds:List fI)(r:Int):Prop:=(r= -1/\∀ j,j<ds.length ->p (ds.getD j default)=false)\/∃ k:Nat,r=(k:Int)/\k<ds.length/\p (ds.getD k default)=true/\∀ j,j<k ->p (ds.getD j default)=false
theorem Oo.any{p:fI ->Bool}{ds:List fI}{r:Int}(h:Oo p ds r):decide (0<=r)=ds.any p:=by
 rcases h with ⟨rfl,h⟩|⟨k,rfl,hk,h,-⟩
 ·rw [Eq.comm]
  show ds.any p=false
  rw [dF];intro d hd;obtain ⟨j,hj,rfl⟩:=bF hd;have:=h j hj;rw [show ds.getD j default=ds[j] by simp [List.getD,List.getElem?_eq_getElem hj]] at this;rw [this]
  decide
 ·rw [aI (by omega),Eq.comm,cO]
  exact ⟨_,bD (getD_at hk),h⟩
theorem Fe{v:Value}{ds:List fI}{w:World}(hv:fM gV w v ds)(hn:ds.length<=1000000)(p:fI ->Bool)(g:Nat)(lb:Array Value)
  (eg:∀ args w,(callFunc g args).run prog w= .ok (.enter g args) w)
  (hp:∀ W d tv,d∈ds ->Below w.heap.size w W ->kN W tv d ->Calls prog g (#[tv]++lb) W (fO W (p d))):
  Calls prog 161 #[v,.func (.func g) #[] lb] w fun e w'=>∃ r:Int,e= .returned (.int .i64 r)/\Oo p ds r/\Below w.heap.size w w':=by
 obtain ⟨a,cap,rfl,g1,g2,g0,h⟩:=hv.parts;have HS:=zH h;have HP:=zH hp;have HM:=zH (fun k (hk:k<ds.length)=>(bD (getD_at hk):ds.getD k default∈ds));clear hp hv h g0;obtain ⟨n,hN⟩:∃ n,ds.length=n:=⟨_,rfl⟩;rw [hN] at hn g1 HS HM ⊢;have LN:=zH hN;clear hN;go_enter func161,ntmps161
 go_wp2_with fail
 go_loopw [8] (fun i wr=>∃ k:Nat,k<=n/\i= .int .i64 k/\(∀ j,j<k ->p (ds.getD j default)=false)/\Below w.heap.size w wr) (fun i _=>n-(intOf i).toNat)
 case atStart=>exact ⟨0,aL _,rfl,fun j hj=>absurd hj (by omega),aj _ _⟩
 case round=>
  obtain ⟨k,hk,rfl,hall,hb⟩:=hrel;have HA:=zH hall;have HB:=zH hb;clear hall hb
  by_cases hlt:k<n
  ·obtain ⟨b,o,c,hv,-,-,-,hc⟩:=wh (HS.o.below HB.o) (by rw [LN.o];omega)
   rw [LN.o] at hv;simp only [aC] at hv
   obtain ⟨rfl,-,rfl⟩:=hv;obtain ⟨dv,ev,⟨c0,c1,c2,c3⟩,hdv,hev⟩:=hc k (by rw [LN.o];exact hlt);have JV:Hid (p (ds.getD k default)=false ->∀ j,j<k+1 ->p (ds.getD j default)=false):=zH (fun h j hj=>by
    by_cases e:j=k
    ·rw [e];exact h
    ·exact HA.o j (by omega))
   have K:=HP.o wr (ds.getD k default) _ (HM.o k hlt) HB.o ⟨_,_,rfl,hdv,hev⟩;obtain ⟨da,dc,rfl,-⟩:=hdv.parts;obtain ⟨ea,ec,rfl,-⟩:=hev.parts;obtain ⟨d,hd⟩:∃ d,d=ds.getD k default:=⟨_,rfl⟩;have HD:=zH hd;rw [<-hd] at K c0 c1 c2 c3 JV;clear hc hd hdv hev
   cases zO:p d with
   |true=>
    rw [zO] at K;have HPD:=zH zO;clear zO;go_wp2_with (go_at_fn g;refine K.mono ?_;rintro e w1 ⟨rfl,hb⟩)
    have G:=zH (HB.o.trans (hb.mono HB.o.size));clear hb c0 c1 c2 c3 K;go_wp2_with fail
    go_ret
    exact ⟨k,rfl,.inr ⟨k,rfl,by rw [LN.o];exact hlt,by rw [<-HD.o];exact HPD.o,HA.o⟩,G.o⟩
   |false=>
    rw [zO] at K;have HX:=zH (JV.o zO);clear zO;go_wp2_with (go_at_fn g;refine K.mono ?_;rintro e w1 ⟨rfl,hb⟩)
    have G:=zH (HB.o.trans (hb.mono HB.o.size));clear hb c0 c1 c2 c3 K;go_wp2_with fail
    go_roundw
    case rel=>exact ⟨k+1,by omega,by go_num,HX.o,G.o⟩
    case measure=>simp [intOf];omega
  ·obtain rfl:k=n:=by omega
   go_wp2_with fail
   go_ret
   exact ⟨-1,rfl,.inl ⟨rfl,by rw [LN.o];exact HA.o⟩,HB.o⟩
theorem yM{v:Value}{ds:List fI}{w:World}(hv:fM gV w v ds)(hn:ds.length<=1000000)(p:fI ->Bool)(g:Nat)(lb:Array Value)
  (eg:∀ args w,(callFunc g args).run prog w= .ok (.enter g args) w)
  (hp:∀ W d tv,d∈ds ->Below w.heap.size w W ->kN W tv d ->Calls prog g (#[tv]++lb) W (fO W (p d))):
  Calls prog 85 #[v,.func (.func g) #[] lb] w (fO w (ds.any p)):=by
 have K:=Fe hv hn p g lb eg hp;obtain ⟨a,cap,rfl,-⟩:=hv.parts;generalize ds.length=n at*;clear hv hp;go_enter func85,ntmps85
 go_wp2_with fail
 refine K.mono ?_;rintro e w1 ⟨q,rfl,hq,hb⟩;have G:=zH hb;have hq:=hq.any;generalize ds.any p=r at*;subst hq;clear hb K;go_wp2_with fail
 go_ret
 exact ⟨rfl,G.o⟩
end Go.Proofs.YtfgcodcablpdcaaGreat
set_option maxRecDepth 100000
set_option maxHeartbeats 64000000
namespace Go.Proofs.YtfgcodcablpdcaaGreat
open Go.Proofs.Tryz
open Go.RowKit Plain
theorem xH{xs:List fI}{k:Nat}(h:k<xs.length):xs.getD k default=xs[k]:=by simp [List.getD,List.getElem?_eq_getElem h]
theorem zero_one:∀ u∈gV.zero.cells,u.oneCell'=true:=by
 intro u hu;have e:gV.zero.cells=#[.int .i64 0,.int .i64 0,.slice none 0 0,.slice none 0 0]:=rfl;rw [e] at hu;simp only [List.mem_toArray,bL,dU,or_false] at hu
 rcases hu with rfl|rfl|rfl|rfl<;>rfl
def oz(p:fI ->Bool)(xs:List fI)(N:Nat)(w:World)(rb n cap i j:Nat)(u:World):Prop:=∃ ys,pR p xs ys i j/\gy gV N u (.slice (some ⟨rb,0,none⟩) n cap) ys/\Below N w u
section
variable {p:fI ->Bool} {xs:List fI} {N:Nat} {w:World} {rb n cap i j:Nat} {u u':World}
theorem oz.below(h:oz p xs N w rb n cap i j u)(hb:Below u.heap.size u u')(hN:N<=u.heap.size):oz p xs N w rb n cap i j u':=by
 obtain ⟨ys,h1,h2,h3⟩:=h;exact ⟨ys,h1,h2.below hb (ah _),h3.trans (hb.mono hN)⟩
theorem oz.at(h:oz p xs N w rb n cap i j u)(hj:j<xs.length):∃ da dn dc ea en ec,xU u rb (j*4) xs[j] (.slice da dn dc) (.slice ea en ec)/\Sq gL (fun b=>b<u.heap.size/\b≠rb) u (.slice da dn dc) xs[j].deps/\Sq jo (fun b=>b<u.heap.size/\b≠rb) u (.slice ea en ec) xs[j].effs:=by
 obtain ⟨ys,h1,h2,h3⟩:=h;exact h2.txnAt (h1.at (ah _) hj)
theorem oz.into(h:oz p xs N w rb n cap i j u)(hj:j<xs.length)(hn:n=xs.length):(∃ v0 v1 v2 v3,u.cell? ⟨rb,i*4,none⟩=some v0/\u.cell? ⟨rb,i*4+1,none⟩=some v1/\u.cell? ⟨rb,i*4+2,none⟩=some v2/\u.cell? ⟨rb,i*4+3,none⟩=some v3)/\(u.frozen? ⟨rb,i*4,none⟩=false/\u.frozen? ⟨rb,i*4+1,none⟩=false/\u.frozen? ⟨rb,i*4+2,none⟩=false/\u.frozen? ⟨rb,i*4+3,none⟩=false):=by
 obtain ⟨ys,h1,h2,h3⟩:=h;have hl:=h1.lt;have g:∀ m,m<4 ->∃ v,u.cell? ⟨rb,i*4+m,none⟩=some v:=fun m hm=>Option.isSome_iff_exists.1 (h2.there (j:=i*4+m) (show _<n*4 by omega))
 obtain ⟨v0,g0⟩:=g 0 (by omega);obtain ⟨v1,g1⟩:=g 1 (by omega);obtain ⟨v2,g2⟩:=g 2 (by omega);obtain ⟨v3,g3⟩:=g 3 (by omega);exact ⟨⟨v0,v1,v2,v3,g0,g1,g2,g3⟩,h2.bare _,h2.bare _,h2.bare _,h2.bare _⟩
theorem oz.skip(h:oz p xs N w rb n cap i j u)(hj:j<xs.length)(hp:p xs[j]=true):oz p xs N w rb n cap i (j+1) u:=by
 obtain ⟨ys,h1,h2,h3⟩:=h;exact ⟨ys,h1.skip hj hp,h2,h3⟩
theorem oz.put(h:oz p xs N w rb n cap i j u)(hj:j<xs.length)(hn:n=xs.length)(hp:p xs[j]=false){dv ev:Value}(hd:Sq gL (fun b=>b<u.heap.size/\b≠rb) u dv xs[j].deps)(he:Sq jo (fun b=>b<u.heap.size/\b≠rb) u ev xs[j].effs):
  oz p xs N w rb n cap (i+1) (j+1) (Jw u rb (i*4) (.int .i64 xs[j].node) (.int .i64 xs[j].seq) dv ev):=by
 obtain ⟨ys,h1,h2,h3⟩:=h;have hl:=h1.lt;exact ⟨_,h1.stays hj hp,h2.Jw (by omega) hd he,h3.trans (VB u (h2.lt rb rfl).1 _ _ _ _ _)⟩
theorem oz.lt(h:oz p xs N w rb n cap i j u):i<j/\j<=xs.length/\rb<u.heap.size/\N<=rb:=by
 obtain ⟨ys,h1,h2,h3⟩:=h;exact ⟨h1.lt,h1.le,(h2.lt rb rfl).2,(h2.lt rb rfl).1⟩
theorem oz.done(h:oz p xs N w rb n cap i xs.length u)(hn:n=xs.length)(vs:List Value):gy gV N (u.setCells rb (i*4) vs) (.slice (some ⟨rb,0,none⟩) i cap) (xs.filter fun x=> !p x)/\Below N w (u.setCells rb (i*4) vs):=by
 obtain ⟨ys,h1,h2,h3⟩:=h;have hl:=h1.lt;have h4:=h2.cut (i:=i) (by omega);rw [h1.done] at h4;exact ⟨h4.Sj vs (ah _),h3.trans (below_setCells (h2.lt rb rfl).1 vs _ _)⟩
theorem oz.clear(h:oz p xs N w rb n cap i xs.length u)(hn:n=xs.length)(ty:TypeId):(Builtin.clear_ #[29] ty #[.slice (some ⟨rb,i*4,none⟩) (n-i) (cap-i)]).run prog u= .ok (.tuple #[]) (u.setCells rb (i*4) (Builtin.zeroCells gV.zero.cells (n-i)).toList):=by
 obtain ⟨ys,h1,h2,h3⟩:=h;have hl:=h1.lt;exact Oq gV zero_one u ty rb (i*4) (n-i) (cap-i) (by omega) (fun j hj=>h2.there (by have hj':j<(n-i)*4:=hj;show _<n*4;omega)) fun j hj=>h2.bare _
end
theorem Ci{lv:Value}{xs:List fI}{N:Nat}{w:World}(h:gy gV N w lv xs)(hN:N<=w.heap.size)(hl:xs.length<=1000000)(p:fI ->Bool)(g:Nat)(lb:Array Value)
  (eg:∀ args w,(callFunc g args).run prog w= .ok (.enter g args) w)
  (hp:∀ W d tv,d∈xs ->Below N w W ->kN W tv d ->Calls prog g (#[tv]++lb) W (fO W (p d))):
  Calls prog 132 #[lv,.func (.func g) #[] lb] w fun e w'=>∃ v,e= .returned v/\gy gV N w' v (xs.filter fun x=> !p x)/\Below N w w':=by
 have KI:=zH (Fe h.seq hl p g lb eg fun W d tv hd hb=>hp W d tv hd (hb.mono hN));have e10:∀ args w,(callFunc 161 args).run prog w= .ok (.enter 161 args) w:=enters_of func161 (by kernel_rfl) rfl;have HO:=zH h;have HP:=zH hp;have HN:=zH hN;obtain ⟨a,cap,rfl,L1,L2,-,g0⟩:=h.parts;obtain ⟨n,hn⟩:∃ n,n=xs.length:=⟨_,rfl⟩;have HL:=zH hn;rw [<-hn] at KI HO L1 ⊢;clear h hp hN hn g0
 by_cases hz:0<n
 rotate_left
 ·obtain rfl:n=0:=by omega
  have HF:Hid ((xs.filter fun x=> !p x)=xs):=zH (by rw [aK HL.o.symm];rfl);rw [HF.o];clear HF hz;go_enter func132,ntmps132
  go_wp2_with fail
  refine KI.o.mono ?_;rintro e w1 ⟨r,rfl,hr,hb⟩;obtain rfl:r= -1:=by
   rcases hr with ⟨e,-⟩|⟨k,-,hk,-⟩
   ·exact e
   ·have:=HL.o;omega
  have G:=zH hb;clear hr hb KI;go_wp2_with fail
  go_ret
  exact ⟨_,rfl,HO.o.below G.o (ah _),G.o.mono HN.o⟩
 obtain ⟨rb,rfl⟩:∃ rb,a=some ⟨rb,0,none⟩:=by
  obtain ⟨vals,ho,-⟩:=HO.o
  rcases ho.2 with ⟨-,h0⟩|⟨g,cap',cur,hv,-⟩
  ·have:=HL.o;omega
  ·simp only [aC] at hv;exact ⟨g,hv.1⟩
 have i1:(n:Int)<=cap:=by omega
 have i2:(cap:Int)<=9223372036854775807:=by omega
 have RB:=zH (HO.o.lt rb rfl);clear L1 L2;go_enter func132,ntmps132
 go_wp2_with fail
 refine KI.o.mono ?_;rintro e w1 ⟨r,rfl,hr,hb⟩;have G:=zH hb;clear hb KI
 rcases hr with ⟨rfl,hall⟩|⟨k,rfl,hk,hyes,hno⟩
 ·have HF:Hid ((xs.filter fun x=> !p x)=xs):=zH (del_none fun j hj=>by rw [<-xH hj];exact hall j hj)
  clear hall;go_wp2_with fail
  go_ret
  exact ⟨_,rfl,by rw [HF.o];exact HO.o.below G.o (ah _),G.o.mono HN.o⟩
 ·have D0:Hid (oz p xs N w rb n cap k (k+1) w1):=zH ⟨xs,pR.start hk (fun j hj hjk=>by rw [<-xH hj];exact hno j hjk) (by rw [<-xH hk];exact hyes),HO.o.below G.o (ah _),G.o.mono HN.o⟩
  have bk:((k:Int)== -1)=false:=beq_false_of_ne (by omega);have hkn:(k:Int)<n:=by have:=HL.o;omega
  clear hyes hno hk;go_wp2_with fail
  go_loopw [5,6] (fun s5 s6 wr=>∃ i j:Nat,s5= .int .i64 i/\s6= .int .i64 j/\j<=n/\Aside (oz p xs N w rb n cap i j wr)) (fun _ s6 _=>n-(intOf s6).toNat)
  case atStart=>exact ⟨k,k+1,rfl,by go_num,by omega,D0.o⟩
  case round=>
   obtain ⟨i,j,rfl,rfl,hj,hrel⟩:=hrel;have D:=zH (Aside.out hrel);have hij:i<j:=D.o.lt.1;clear hrel D0
   by_cases hlt:j<n
   ·have hjx:j<xs.length:=by rw [<-HL.o];exact hlt
    have HJX:=zH hjx;obtain ⟨da,dn,dc,ea,en,ec,TA,SD,SE⟩:=D.o.at hjx;have HD:=zH SD;have HE:=zH SE;have hm:xs[j]∈xs:=aU hjx;have KP:=zH (fun W tv (hb:Below N w W) (ht:kN W tv xs[j])=>HP.o W xs[j] tv hm hb ht);have SK:=zH (fun (hp:p xs[j]=true)=>D.o.skip hjx hp);have PU:=zH (fun (u:World) (hb:Below wr.heap.size wr u) (hp:p xs[j]=false)=>(D.o.below hb (by have:=D.o.lt;omega)).put (dv:= .slice da dn dc) (ev:= .slice ea en ec) hjx HL.o hp ((SD.agree fun b hq=>hb.block b hq.1).mono fun b hq=>⟨ay hq.1 hb.size,hq.2⟩) ((SE.agree fun b hq=>hb.block b hq.1).mono fun b hq=>⟨ay hq.1 hb.size,hq.2⟩));have IN:=zH (fun (u:World) (hb:Below wr.heap.size wr u)=>(D.o.below hb (by have:=D.o.lt;omega)).into hjx HL.o);have GN:Hid (Below N w wr/\N<=wr.heap.size):=zH (by obtain ⟨ys,-,-,h3⟩:=D.o;have:=D.o.lt;exact ⟨h3,by omega⟩);obtain ⟨c0,c1,c2,c3⟩:=TA;generalize xs[j]=t at*;clear hjx SD SE hm;have hk1:(j:Int)<n:=by omega
    have hk2:(i:Int)<n:=by omega
    have BE:=zH (zB wr (.cells #[.int .i64 t.node,.int .i64 t.seq,.slice da dn dc,.slice ea en ec] 82));have TB:Hid (wE wr.heap.size t da dn dc ea en ec (wr.alloc (.cells #[.int .i64 t.node,.int .i64 t.seq,.slice da dn dc,.slice ea en ec] 82))):=zH (kZ (HD.o.mono fun b hb=>hb.1) (HE.o.mono fun b hb=>hb.1));go_upto_region 8 with fail
    clear c0 c1 c2 c3;generalize (wr.alloc _)=wd at*;obtain ⟨c0,c1,c2,c3⟩:=TB.o.c;have K2:=KP.o wd _ (GN.o.1.trans (BE.o.mono GN.o.2)) TB.o.is
    cases hq:p t with
    |true=>
     rw [hq] at K2;have SKK:=zH (SK.o hq);clear hq;go_wp2_with (go_at_fn g;refine K2.mono ?_;rintro e w2 ⟨rfl,hb⟩)
     have G2:=zH (BE.o.trans (hb.mono BE.o.size));clear hb c0 c1 c2 c3 K2;go_wp2_with fail
     go_roundw
     case rel=>exact ⟨i,j+1,rfl,by go_num,by omega,SKK.o.below G2.o GN.o.2⟩
     case measure=>simp [intOf];omega
    |false=>
     rw [hq] at K2;have HQ:=zH hq;clear hq;go_upto_region 9 with (go_at_fn g;refine K2.mono ?_;rintro e w2 ⟨rfl,hb⟩;have G2:=zH (BE.o.trans (hb.mono BE.o.size));have TB2:=zH (TB.o.below hb);clear hb c0 c1 c2 c3)
     clear K2;obtain ⟨d0,d1,d2,d3⟩:=TB2.o.c;obtain ⟨⟨v0,v1,v2,v3,y0,y1,y2,y3⟩,f0,f1,f2,f3⟩:=IN.o w2 G2.o;have DN:=zH (PU.o w2 G2.o HQ.o);unfold Jw at DN;go_wp2_with fail
     go_roundw
     case rel=>exact ⟨i+1,j+1,by go_num,by go_num,by omega,DN.o⟩
     case measure=>simp [intOf];omega
   ·obtain rfl:j=n:=by omega
    have DJ:Hid (oz p xs N w rb j cap i xs.length wr):=zH (by have:=D.o;rwa [HL.o] at this ⊢);have hcl:=fun ty=>DJ.o.clear HL.o ty
    have DD:=zH (DJ.o.done HL.o (Builtin.zeroCells gV.zero.cells (j-i)).toList);have hi1:(i:Int)<=j:=by omega
    have hi2:¬ (i:Int)=cap:=by omega
    have hi3:¬ cap=i:=by omega
    generalize wr.setCells rb (i*4) (Builtin.zeroCells gV.zero.cells (j-i)).toList=wz at*;go_wp2_with fail
    go_ret
    exact ⟨_,rfl,DD.o.1,DD.o.2⟩
end Go.Proofs.YtfgcodcablpdcaaGreat
set_option maxRecDepth 100000
set_option maxHeartbeats 64000000
namespace Go.Proofs.YtfgcodcablpdcaaGreat
open Go.Proofs.Tryz
open Go.RowKit Plain
def vM(N:Nat)(u:World)(a:Option Addr)(n c:Nat)(xs:List gD)(j:Nat):Prop:=xs.length=n/\(n<=c/\c<=9223372036854775807/\(a=none ->c=0))/\(0<n ->∃ rb vals,a=some ⟨rb,0,none⟩/\mI N u rb c xs j vals)
theorem vM.start{N:Nat}{u:World}{a:Option Addr}{n c:Nat}{xs:List gD}(h:gy jo N u (.slice a n c) xs):vM N u a n c xs 0:=by
 obtain ⟨hn,h1,h2⟩:=h.seq.iY;subst hn;refine ⟨rfl,⟨h1,h2,h.Bq⟩,fun hp=> ?_⟩;obtain ⟨rb,rfl⟩:∃ rb,a=some ⟨rb,0,none⟩:=by
  obtain ⟨vals,ho,-⟩:=h
  rcases ho.2 with ⟨-,h0⟩|⟨g,cap',cur,hv,-⟩
  ·omega
  ·simp only [aC] at hv;exact ⟨g,hv.1⟩
 obtain ⟨vals,hv⟩:=mI.start h;exact ⟨rb,vals,rfl,hv⟩
theorem vM.below{N:Nat}{u u':World}{a:Option Addr}{n c:Nat}{xs:List gD}{j:Nat}(h:vM N u a n c xs j)(hb:Below u.heap.size u u'):vM N u' a n c xs j:=
 ⟨h.1,h.2.1,fun hp=>by obtain ⟨rb,vals,e,k⟩:=h.2.2 hp;exact ⟨rb,vals,e,k.below hb⟩⟩
theorem vM.done{N:Nat}{u:World}{a:Option Addr}{n c:Nat}{xs:List gD}(h:vM N u a n c xs n):Sq jo (fun b=>N<=b/\b<u.heap.size) u (.slice a n c) xs:=by
 obtain ⟨hn,⟨h1,h2,h3⟩,h4⟩:=h;subst hn
 by_cases hp:0<xs.length
 ·obtain ⟨rb,vals,rfl,k⟩:=h4 hp
  exact k.done
 ·have hx:xs=[]:=aK (by omega)
  subst hx;exact ⟨a,c,[],rfl,h1,by unfold maxLen;exact h2,h3,Rows.nil _ _,fun h=>absurd h (by simp)⟩
def Aw(N:Nat)(u:World)(a:Option Addr)(n c:Nat)(xs:List fI)(j:Nat):Prop:=xs.length=n/\(n<=c/\c<=9223372036854775807/\(a=none ->c=0))/\(0<n ->∃ rb vals,a=some ⟨rb,0,none⟩/\mh N u rb c xs j vals)/\(n=0 ->gy gV N u (.slice a n c) xs)
theorem Aw.start{N:Nat}{u:World}{a:Option Addr}{n c:Nat}{xs:List fI}(h:gy gV N u (.slice a n c) xs):Aw N u a n c xs 0:=by
 obtain ⟨hn,h1,h2⟩:=h.seq.iY;subst hn;refine ⟨rfl,⟨h1,h2,h.Bq⟩,fun hp=> ?_,fun _=>h⟩;obtain ⟨rb,rfl⟩:∃ rb,a=some ⟨rb,0,none⟩:=by
  obtain ⟨vals,ho,-⟩:=h
  rcases ho.2 with ⟨-,h0⟩|⟨g,cap',cur,hv,-⟩
  ·omega
  ·simp only [aC] at hv;exact ⟨g,hv.1⟩
 obtain ⟨vals,hv⟩:=mh.start h;exact ⟨rb,vals,rfl,hv⟩
theorem Aw.WH{N:Nat}{u:World}{a:Option Addr}{n c:Nat}{xs:List fI}(h:Aw N u a n c xs n):iO (fun b=>N<=b) gV N u (.slice a n c) xs:=by
 obtain ⟨hn,⟨h1,h2,h3⟩,h4,h5⟩:=h
 by_cases hp:0<n
 ·subst hn
  obtain ⟨rb,vals,rfl,k⟩:=h4 hp;exact k.WH
 ·have hx:xs=[]:=aK (by omega)
  obtain ⟨vals,ho,hr⟩:=h5 (by omega);subst hx;exact ⟨vals,ho,hr.1,fun j x hj=>by simp at hj⟩
theorem zN{w W:World}{rb i:Nat}{v:Value}(h:w.grownBy W (some rb)):w.grownBy (W.setCell ⟨rb,i,none⟩ v) (some rb):=
 ⟨h.os,h.tape,h.output,by have:=h.size;simpa [World.setCell] using this,fun k hk hne=>(aN _ _ _ _ fun e=>hne (by rw [show k=rb from e])).trans (h.block k hk hne)⟩
theorem WE{xs:List fI}{k:Nat}(h:k<xs.length):xs[k]? =some (xs.getD k default):=by simp [List.getD,h]
theorem Nf{lv:Value}{xs:List fI}{N:Nat}{w:World}(h:gy gV N w lv xs)(hN:N<=w.heap.size)(hf:∀ t∈xs,t.deps.length<=1000000/\t.effs.length<=1000000/\∀ e∈t.effs,e.drops.length<=1000000):
  Calls prog 242 #[lv] w fun e w'=>∃ la ln lc,e= .returned (.slice la ln lc)/\iO (fun b=>N<=b) gV N w' (.slice la ln lc) xs/\w.grownBy w' lv.ownBlock/\Below N w w':=by
 obtain ⟨a,c,rfl,L1,L2,-,-⟩:=h.parts;obtain ⟨n,hn⟩:∃ n,n=xs.length:=⟨_,rfl⟩;have HL:=zH hn;rw [<-hn] at h L1 ⊢;have T0:=zH (Aw.start h);have RL:=zH h.lt;have HN:=zH hN;have HF:=zH hf;have i1:(n:Int)<=c:=by omega
 have i2:(c:Int)<=9223372036854775807:=by omega
 clear h hN hf hn L1 L2;go_enter func242,ntmps242
 go_wp2_with fail
 go_loopw [10] (fun i wr=>∃ k:Nat,k<=n/\i= .int .i64 k/\Aside (Aw N wr a n c xs k/\w.grownBy wr (Value.ownBlock (.slice a n c))/\w.heap.size<=wr.heap.size)) (fun i _=>n-(intOf i).toNat)
 case atStart=>exact ⟨0,aL _,rfl,T0.o,bV _ _,ah _⟩
 case round=>
  obtain ⟨k,hk,rfl,hrel⟩:=hrel;obtain ⟨hlo,hbb,hnn⟩:=Aside.out hrel;have LO:=zH hlo;have GB:=zH hbb;have NN:=zH hnn;clear hrel hlo hbb hnn T0
  by_cases hlt:k<n
  ·obtain ⟨rb,vals,rfl,Ng⟩:=LO.o.2.2.1 (by omega)
   have LA:=zH Ng;have hxk:=WE (show k<xs.length by rw [<-HL.o];exact hlt);have Tq:=zH hxk;obtain ⟨da,dn,dc,ea,en,ec,TA,SD0,SE0⟩:=Ng.at hxk;have SD:=zH SD0;have SE:=zH SE0;have HFX:=zH (HF.o (xs.getD k default) (bD hxk));have RB0:=zH Ng.lt;obtain ⟨c0,c1,c2,c3⟩:=TA;clear Ng hxk SD0 SE0;generalize xs.getD k default=t at*;have hk1:(k:Int)<n:=by omega
   have BE:=zH (zB wr (.cells #[.int .i64 t.node,.int .i64 t.seq,.slice da dn dc,.slice ea en ec] 82));have BX:=zH (aM wr (.cells #[.int .i64 t.node,.int .i64 t.seq,.slice da dn dc,.slice ea en ec] 82));have ZB:Hid ((wr.alloc (.cells #[.int .i64 t.node,.int .i64 t.seq,.slice da dn dc,.slice ea en ec] 82)).heap.size=wr.heap.size+1):=zH (by simp);go_upto_region 4 with fail
   clear c0 c1 c2 c3;generalize (wr.alloc _)=wd at*;have LB:=zH (LA.o.below BE.o);have GD:=zH (jZ GB.o (BE.o.mono NN.o));have NW:Hid (w.heap.size<=wd.heap.size):=zH (ak NN.o BE.o.size);have ND:Hid (N<=wd.heap.size):=zH (ak HN.o NW.o);have RB:Hid (N<=rb/\rb<wd.heap.size):=zH ⟨RB0.o.1,ay RB0.o.2 BE.o.size⟩;have SD1:Hid (Sq gL (fun b=>b<wd.heap.size/\b≠rb) wd (.slice da dn dc) t.deps):=zH ((SD.o.agree fun b hb=>BE.o.block b hb.1).mono fun b hb=>⟨ay hb.1 BE.o.size,hb.2⟩);have SE1:Hid (Sq jo (fun b=>b<wd.heap.size/\b≠rb) wd (.slice ea en ec) t.effs):=zH ((SE.o.agree fun b hb=>BE.o.block b hb.1).mono fun b hb=>⟨ay hb.1 BE.o.size,hb.2⟩);have TG:Hid (wr.heap.size<wd.heap.size):=zH (by have:=ZB.o;omega);clear LA GB NN BE RB0 SD SE LO ZB;generalize wr.heap.size=tg at*;clear wr;have KE:=zH (Ba SE1.o (fun b hb=>hb.1) HFX.o.2.1);have b3:wd.cell? ⟨tg,3,none⟩=some (.slice ea en ec):=cell_of_row _ _ 3 _ _ _ BX.o;go_upto_region 5 with (go_at_call 235;refine KE.o.mono ?_;rintro e w3 ⟨v3,rfl,ho3,hb3⟩;have O3:=zH ho3.own;have H3:=zH hb3;obtain ⟨a3,cc3,rfl,p1,p2,-,-⟩:=ho3.own.parts;clear ho3 hb3 KE b3)
   obtain ⟨m,hm⟩:∃ m,m=t.effs.length:=⟨_,rfl⟩;rw [<-hm] at O3 p1 ⊢;have HM:=zH hm;have E0:=zH (vM.start O3.o);have q1:(m:Int)<=cc3:=by omega
   have q2:(cc3:Int)<=9223372036854775807:=by omega
   clear hm p1 p2 O3;go_wp2_with fail
   go_loopw [20] (fun i wo=>∃ j:Nat,j<=m/\i= .int .i64 j/\Aside (vM wd.heap.size wo a3 m cc3 t.effs j/\Below wd.heap.size wd wo)) (fun i _=>m-(intOf i).toNat)
   case atStart=>exact ⟨0,aL _,rfl,E0.o,H3.o⟩
   case round=>
    obtain ⟨j,hj,rfl,hrel⟩:=hrel;obtain ⟨hlo,hbb⟩:=Aside.out hrel;have LE:=zH hlo;have GE:=zH hbb;clear hrel hlo hbb E0 H3
    by_cases hjt:j<m
    ·obtain ⟨eb,vl,rfl,Ng⟩:=LE.o.2.2 (by omega)
     have LA:=zH Ng;have hxj:=getD_some (show j<t.effs.length by rw [<-HM.o];exact hjt);have HXJ:=zH hxj;obtain ⟨dv,EA,SX0⟩:=Ng.at hxj;have HDR:=zH (HFX.o.2.2 (t.effs.getD j default) (bD hxj));have EBL:=zH Ng.lt;clear Ng hxj LE;generalize t.effs.getD j default=x at*;obtain ⟨xa,xc,rfl,-,-,-,-⟩:=fM.parts (L:=jI) (SX0.mono fun b hb=>hb.2.1);have SX:=zH SX0;clear SX0;obtain ⟨xn,hxn⟩:∃ m,m=x.drops.length:=⟨_,rfl⟩;rw [<-hxn] at EA SX;obtain ⟨y0,y1,y2,y3,y4,y5,y6⟩:=EA;have hbe:=zB wr (.cells #[.int .i64 x.pos,.string (bt x.key),.string (bt x.field),.int .i64 x.kind,.string (bt x.elem),.int .i64 x.n,.slice xa xn xc] 85);have BF:=zH hbe;have FB:Hid ((wr.alloc (.cells #[.int .i64 x.pos,.string (bt x.key),.string (bt x.field),.int .i64 x.kind,.string (bt x.elem),.int .i64 x.n,.slice xa xn xc] 85)).cell? ⟨wr.heap.size,6,none⟩=some (.slice xa xn xc)):=zH (mY wr x xa xn xc).zero.2.2.2.2.2.2;have SXB:Hid (fM jI (wr.alloc (.cells #[.int .i64 x.pos,.string (bt x.key),.string (bt x.field),.int .i64 x.kind,.string (bt x.elem),.int .i64 x.n,.slice xa xn xc] 85)) (.slice xa xn xc) x.drops):=zH ((SX.o.agree fun b hb=>hbe.block b hb.2.1).mono fun b hb=>ay hb.2.1 hbe.size);have hj1:(j:Int)<m:=by omega
     clear hbe hxn SX;go_upto_region 8 with fail
     clear y0 y1 y2 y3 y4 y5 y6;have LB2:=zH (LA.o.below BF.o);have GE2:=zH (GE.o.trans (BF.o.mono GE.o.size));have ZW:Hid (wd.heap.size<=wr.heap.size):=zH GE.o.size;generalize (wr.alloc _)=wf at*;have KD:=zH (Bb SXB.o HDR.o);have y6:=FB.o;go_upto_region 9 with (go_at_call 236;refine KD.o.mono ?_;rintro e w7 ⟨v7,rfl,ho7,hb7⟩;have O7:=zH (ho7.new pX);have G7:=zH hb7;obtain ⟨a7,c7,rfl,-,-,-,-⟩:=ho7.parts;have L7:=zH (LB2.o.below hb7);obtain ⟨dv6,EA6,-⟩:=L7.o.at HXJ.o;have t6:=EA6.c6;have f6:=dh L7.o.own (j*7+6);clear EA6 ho7 hb7 KD y6)
     have SET:Hid (vM wd.heap.size (w7.setCell ⟨eb,j*7+6,none⟩ (.slice a7 x.drops.length c7)) (some ⟨eb,0,none⟩) m cc3 t.effs (j+1)):=zH ⟨HM.o.symm,⟨by omega,by omega,fun h=>by cases h⟩,fun _=>⟨eb,_,rfl,L7.o.set HXJ.o (O7.o.mono fun b hb=>⟨by have:=ZW.o;have:=BF.o.size;omega,hb.2,by have:=EBL.o;have:=BF.o.size;omega⟩)⟩⟩;have GS:Hid (Below wd.heap.size wd (w7.setCell ⟨eb,j*7+6,none⟩ (.slice a7 x.drops.length c7))):=zH ((GE2.o.trans (G7.o.mono GE2.o.size)).setCell (by show wd.heap.size<=eb;exact EBL.o.1) _);clear t6 f6;go_wp2_with fail
     go_roundw
     case rel=>exact ⟨j+1,by omega,by go_num,SET.o,GS.o⟩
     case measure=>simp [intOf];omega
    ·obtain rfl:j=m:=by omega
     have SE2:=zH LE.o.done;have BX2:=zH ((GE.o.block _ TG.o).trans BX.o);have LB2:=zH (LB.o.below GE.o);have SD2:Hid (fM gL wr (.slice da dn dc) t.deps):=zH ((SD1.o.agree fun b hb=>GE.o.block b hb.1).mono fun b hb=>ay hb.1 GE.o.size);have GW:=zH (jZ GD.o (GE.o.mono NW.o));have ZW:Hid (wd.heap.size<=wr.heap.size):=zH GE.o.size;have KC:=zH (nL SD2.o HFX.o.1);have b2:wr.cell? ⟨tg,2,none⟩=some (.slice da dn dc):=cell_of_row _ _ 2 _ _ _ BX2.o;clear LE BX SD1 SE1 GD;go_upto_region 11 with (go_at_call 89;refine KC.o.mono ?_;rintro e w5 ⟨v5,rfl,ho5,hb5⟩;have O5:=zH (ho5.new gU);have G5:=zH hb5;obtain ⟨a5,c5,rfl,-,-,-,-⟩:=ho5.parts;have L5:=zH (LB2.o.below hb5);obtain ⟨ya,yn,yc,yb,ym,yd,TA5,-,-⟩:=L5.o.at Tq.o;have t2:=TA5.c2;have t3:=TA5.c3;have f2:=L5.o.bare (k*4+2);have f3:=L5.o.bare (k*4+3);clear TA5 ho5 hb5 KC b2)
     have RZ:=RB.o;have SET:Hid (Aw N ((w5.setCell ⟨rb,k*4+2,none⟩ (.slice a5 t.deps.length c5)).setCell ⟨rb,k*4+3,none⟩ (.slice a3 j cc3)) (some ⟨rb,0,none⟩) n c xs (k+1)):=zH ⟨HL.o.symm,⟨by omega,by omega,fun h=>by cases h⟩,fun _=>⟨rb,_,rfl,L5.o.set Tq.o (O5.o.mono fun b hb=>⟨by have:=ZW.o;have:=ND.o;omega,hb.2,by have:=ZW.o;omega⟩) ((SE2.o.agree fun b hb=>G5.o.block b hb.2).mono fun b hb=>⟨by have:=ND.o;omega,ay hb.2 G5.o.size,by omega⟩)⟩,fun h=>absurd h (by omega)⟩;have GS:Hid (w.grownBy ((w5.setCell ⟨rb,k*4+2,none⟩ (.slice a5 t.deps.length c5)).setCell ⟨rb,k*4+3,none⟩ (.slice a3 j cc3)) (Value.ownBlock (.slice (some ⟨rb,0,none⟩) n c))):=zH (zN (rb:=rb) (zN (rb:=rb) (jZ GW.o (G5.o.mono (by have:=ZW.o;have:=NW.o;omega)))));have ZS:Hid (w.heap.size<=((w5.setCell ⟨rb,k*4+2,none⟩ (.slice a5 t.deps.length c5)).setCell ⟨rb,k*4+3,none⟩ (.slice a3 j cc3)).heap.size):=zH (by have h1:=G5.o.size;have h2:=ZW.o;have h3:=NW.o;simp [World.setCell];omega);clear t2 t3 f2 f3 RZ;go_wp2_with fail
     go_roundw
     case rel=>exact ⟨k+1,by omega,by go_num,SET.o,GS.o,ZS.o⟩
     case measure=>simp [intOf];omega
  ·obtain rfl:k=n:=by omega
   have DN:=zH LO.o.WH;go_wp2_with fail
   go_ret
   exact ⟨_,_,_,rfl,DN.o,GB.o,(aj N w).grown GB.o HN.o fun k hk=>(RL.o k hk).1⟩
end Go.Proofs.YtfgcodcablpdcaaGreat