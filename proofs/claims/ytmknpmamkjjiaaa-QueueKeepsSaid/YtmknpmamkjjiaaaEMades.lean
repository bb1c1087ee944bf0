import Derived.Test.YtmknpmamkjjiaaaEff
import Derived.Test.YtmknpmamkjjiaaaElGs
import Derived.Test.YtmknpmamkjjiaaaGives
import Derived.Deep.Cut
import Derived.Shelf.Abstract
set_option linter.unusedVariables false
set_option maxRecDepth 100000
set_option maxHeartbeats 64000000
namespace Go.Proofs.Ytmknpmamkjjiaaa
open Go.Proofs.Try
open Go.RowKit Plain
theorem tV(node seq:Int)(x:bO)(a:Option Addr)(n c:Nat)(w:World):
  Calls prog 46 #[.int .i64 node,.int .i64 seq,.agg #[.int .i64 x.pos,.string (bt x.key),.string (bt x.field),.int .i64 x.kind,.string (bt x.elem),.int .i64 x.n,.slice a n c]] w fun e w'=>e= .returned (.agg #[.string (bt x.key),.string (bt x.field),.int .i64 x.kind,.string (bt x.elem),.int .i64 x.n,.int .i64 node,.int .i64 seq,.int .i64 x.pos])/\Below w.heap.size w w':=by
 show Calls prog 46 _ w fun e w'=>e= .returned (.agg #[.string (bt x.key),.string (bt x.field),.int .i64 x.kind,.string (bt x.elem),.int .i64 x.n,.int .i64 node,.int .i64 seq,.int .i64 x.pos])/\Below w.heap.size w w'
 go_enter func46,ntmps46
 go_wp2_with fail
 refine bodyPost_ret (v:= .agg #[.string (bt x.key),.string (bt x.field),.int .i64 x.kind,.string (bt x.elem),.int .i64 x.n,.int .i64 node,.int .i64 seq,.int .i64 x.pos]) (by simp [results,results46,go_sem]) rfl ⟨rfl,?_⟩;exact (((ak _ _).alloc (aj _) _).alloc (by simp) _).alloc (by simp;omega) _
def jN(node seq:Int)(d:bW):Bool:=decide (d.node=node)&&decide (d.seq=seq)
theorem mH(node seq:Int)(d:bW)(w:World):
  Calls prog 36 #[.int .i64 node,.int .i64 seq,.agg #[.int .i64 d.node,.int .i64 d.seq,.int .i64 d.pos]] w (bH w (jN node seq d)):=by
 have G:=zH (zB w (.cells #[.int .i64 d.node,.int .i64 d.seq,.int .i64 d.pos] 47));unfold jN;generalize d.node=dn at*;generalize d.seq=ds at*
 by_cases h1:dn=node
 ·by_cases h2:ds=seq
  ·rw [aB h1,aB h2]
   have e1:(dn==node)=true:=by simp [h1]
   have e2:(ds==seq)=true:=by simp [h2]
   clear h1 h2;go_enter func36,ntmps36
   go_wp2_with fail
   go_ret
   exact ⟨rfl,G.o⟩
  ·rw [aB h1,aA h2]
   have e1:(dn==node)=true:=by simp [h1]
   have e2:(ds==seq)=false:=by simp [h2]
   clear h1 h2;go_enter func36,ntmps36
   go_wp2_with fail
   go_ret
   exact ⟨rfl,G.o⟩
 ·rw [aA h1]
  have e1:(dn==node)=false:=by simp [h1]
  clear h1;go_enter func36,ntmps36
  go_wp2_with fail
  go_ret
  exact ⟨rfl,G.o⟩
theorem yP(d:bW):dv d= .agg #[.int .i64 d.node,.int .i64 d.seq,.int .i64 d.pos]:=rfl
theorem rF{v:Value}{ds:List bW}{w:World}(hv:bJ eP w v ds)(hn:ds.length<=1000000)(p:bW ->Bool)(g:Nat)(lb:Array Value)
  (eg:∀ args w,(callFunc g args).run prog w= .ok (.enter g args) w)
  (hp:∀ W d,Below w.heap.size w W ->Calls prog g (#[dv d]++lb) W (bH W (p d))):
  Calls prog 50 #[v,.func (.func g) #[] lb] w fun e w'=>∃ r:Int,e= .returned (.int .i64 r)/\decide (0<=r)=ds.any p/\Below w.heap.size w w':=by
 obtain ⟨a,cap,rfl,g1,g2,g0,h⟩:=hv.parts;have HS:=zH h;have HP:=zH hp;have HY:Hid (∀ k,k<ds.length ->p (ds.getD k default)=true ->ds.any p=true):=zH (fun k hk h=>by
  rw [List.any_eq_true];exact ⟨_,by rw [show ds.getD k default=ds[k] by simp [List.getD,ah hk]];exact aS hk,h⟩)
 have HN:Hid ((∀ j,j<ds.length ->p (ds.getD j default)=false) ->ds.any p=false):=zH (fun h=>by
  rw [List.any_eq_false];intro d hd;obtain ⟨j,hj,rfl⟩:=aX hd;have:=h j hj;rw [show ds.getD j default=ds[j] by simp [List.getD,ah hj]] at this;rw [this]
  decide)
 clear hp hv h g0;obtain ⟨n,hN⟩:∃ n,ds.length=n:=⟨_,rfl⟩;rw [hN] at hn g1 HS HY HN ⊢;have LN:=zH hN;clear hN;generalize ds.any p=r at*;go_enter func50,ntmps50
 go_wp2_with fail
 go_loopw [8] (fun i wr=>∃ k:Nat,k<=n/\i= .int .i64 k/\(∀ j,j<k ->p (ds.getD j default)=false)/\Below w.heap.size w wr) (fun i _=>n-(intOf i).toNat)
 case atStart=>exact ⟨0,aJ _,rfl,fun j hj=>absurd hj (by omega),ak _ _⟩
 case round=>
  obtain ⟨k,hk,rfl,hall,hb⟩:=hrel;have HA:=zH hall;have HB:=zH hb;clear hall hb
  by_cases hlt:k<n
  ·obtain ⟨b,o,c,hv,-,-,-,hc⟩:=iE (HS.o.below HB.o) (by rw [LN.o];omega)
   rw [LN.o] at hv;simp only [aG] at hv
   obtain ⟨rfl,-,rfl⟩:=hv;obtain ⟨c0,c1,c2⟩:=hc k (by rw [LN.o];exact hlt);have zM:=zH (HY.o k hlt);have tT:Hid (p (ds.getD k default)=false ->∀ j,j<k+1 ->p (ds.getD j default)=false):=zH (fun h j hj=>by
    by_cases e:j=k
    ·rw [e];exact h
    ·exact HA.o j (by omega))
   have K:=HP.o wr (ds.getD k default) HB.o;clear hc;rw [yP] at K;generalize ds.getD k default=d at*
   cases uf:p d with
   |true=>
    rw [uf] at K;obtain rfl:r=true:=zM.o uf;clear uf;go_wp2_with (go_at_fn g;refine K.mono ?_;rintro e w1 ⟨rfl,hb⟩)
    have G:=zH (HB.o.trans (hb.mono HB.o.size));clear hb c0 c1 c2 K;go_wp2_with fail
    go_ret
    exact ⟨k,rfl,by simp,G.o⟩
   |false=>
    rw [uf] at K;have HX:=zH (tT.o uf);clear uf;go_wp2_with (go_at_fn g;refine K.mono ?_;rintro e w1 ⟨rfl,hb⟩)
    have G:=zH (HB.o.trans (hb.mono HB.o.size));clear hb c0 c1 c2 K;go_wp2_with fail
    go_roundw
    case rel=>exact ⟨k+1,by omega,by go_num,HX.o,G.o⟩
    case measure=>simp [intOf];omega
  ·obtain rfl:k=n:=by omega
   obtain rfl:r=false:=HN.o HA.o;go_wp2_with fail
   go_ret
   exact ⟨-1,rfl,by decide,HB.o⟩
theorem iM{v:Value}{ds:List bW}{w:World}(hv:bJ eP w v ds)(hn:ds.length<=1000000)(p:bW ->Bool)(g:Nat)(lb:Array Value)
  (eg:∀ args w,(callFunc g args).run prog w= .ok (.enter g args) w)
  (hp:∀ W d,Below w.heap.size w W ->Calls prog g (#[dv d]++lb) W (bH W (p d))):
  Calls prog 37 #[v,.func (.func g) #[] lb] w (bH w (ds.any p)):=by
 have K:=rF hv hn p g lb eg hp;obtain ⟨a,cap,rfl,-⟩:=hv.parts;generalize ds.any p=r at*;generalize ds.length=n at*;clear hv hp;go_enter func37,ntmps37
 go_wp2_with fail
 refine K.mono ?_;rintro e w1 ⟨q,rfl,hq,hb⟩;have G:=zH hb;clear hb K;subst hq;go_wp2_with fail
 go_ret
 exact ⟨rfl,G.o⟩
theorem dR(w:World)(X Y Z:Array Value)(t u s:TypeId)(i:Nat):
  (((w.alloc (.cells X t)).alloc (.cells Y u)).alloc (.cells Z s)).cell? ⟨w.heap.size,i,none⟩=X[i]? /\
  (((w.alloc (.cells X t)).alloc (.cells Y u)).alloc (.cells Z s)).cell? ⟨w.heap.size+1,i,none⟩=Y[i]? /\
  (((w.alloc (.cells X t)).alloc (.cells Y u)).alloc (.cells Z s)).cell? ⟨w.heap.size+1+1,i,none⟩=Z[i]? :=by
 have s1:(w.alloc (.cells X t)).heap.size=w.heap.size+1:=by simp
 have s2:((w.alloc (.cells X t)).alloc (.cells Y u)).heap.size=w.heap.size+1+1:=by simp
 have h1:=aM w X t i;have h2:=aM (w.alloc (.cells X t)) Y u i;have h3:=aM ((w.alloc (.cells X t)).alloc (.cells Y u)) Z s i;rw [s1] at h2;rw [s2] at h3;have b2:=(ak (w.heap.size+1) (w.alloc (.cells X t))).alloc (by rw [s1];exact aj _) (.cells Y u);have b3:=(ak (w.heap.size+1+1) ((w.alloc (.cells X t)).alloc (.cells Y u))).alloc (by rw [s2];exact aj _) (.cells Z s);exact ⟨(b3.cell (p:=⟨w.heap.size,i,none⟩) (show w.heap.size<w.heap.size+1+1 by omega)).trans ((b2.cell (p:=⟨w.heap.size,i,none⟩) (show w.heap.size<w.heap.size+1 by omega)).trans h1),(b3.cell (p:=⟨w.heap.size+1,i,none⟩) (show w.heap.size+1<w.heap.size+1+1 by omega)).trans h2,h3⟩
theorem nM:∀ args w,(callFunc 49 args).run prog w= .ok (.enter 49 args) w:=enters_of func49 (by kernel_rfl) rfl
theorem ug(node seq pos:Int)(d:bW):dI node seq pos d=(jN node seq d&&decide (pos<=d.pos)):=by
 unfold dI jN;rw [Bool.and_assoc]
theorem pF(node seq pos:Int)(d:bW)(b1 b2 b3:Nat)(W:World)(h1:W.cell? ⟨b1,0,none⟩=some (.int .i64 node))(h2:W.cell? ⟨b2,0,none⟩=some (.int .i64 seq))(h3:W.cell? ⟨b3,0,none⟩=some (.int .i64 pos)):
  Calls prog 49 (#[dv d]++#[.pointer (some ⟨b1,0,none⟩),.pointer (some ⟨b2,0,none⟩),.pointer (some ⟨b3,0,none⟩)]) W (bH W (dI node seq pos d)):=by
 show Calls prog 49 #[.agg #[.int .i64 d.node,.int .i64 d.seq,.int .i64 d.pos],.pointer (some ⟨b1,0,none⟩),.pointer (some ⟨b2,0,none⟩),.pointer (some ⟨b3,0,none⟩)] W _
 have hb:=zB W (.cells #[.int .i64 d.node,.int .i64 d.seq,.int .i64 d.pos] 47);have hc:∀ {b:Nat} {u:Value},W.cell? ⟨b,0,none⟩=some u ->(W.alloc (.cells #[.int .i64 d.node,.int .i64 d.seq,.int .i64 d.pos] 47)).cell? ⟨b,0,none⟩=some u:=fun h=>(hb.cell (ay W _ h)).trans h
 have k1:=hc h1;have k2:=hc h2;have k3:=hc h3;have DB:Hid (gq (W.alloc (.cells #[.int .i64 d.node,.int .i64 d.seq,.int .i64 d.pos] 47)) W.heap.size 0 d):=zH ⟨by simp,by simp,by simp⟩;have G:=zH hb;have K:=zH (fun W=>mH node seq d W);have e1:=ug node seq pos d;clear hc hb h1 h2 h3;rw [e1];clear e1;generalize jN node seq d=r1 at*;go_enter func49,ntmps49
 go_upto_region 1 with fail
 generalize (W.alloc _)=w1 at*;obtain ⟨c0,c1,c2⟩:=DB.o;simp only [aC] at c1 c2
 go_wp2_with fail
 refine (K.o _).mono ?_;rintro e w2 ⟨rfl,hb⟩;have m3:=(hb.cell (ay w1 _ k3)).trans k3;have d2:=(hb.cell (ay w1 _ c2)).trans c2;have G2:=zH (G.o.trans (hb.mono G.o.size));clear hb c0 c1 c2 k1 k2 k3
 cases r1 with
 |false=>
  rw [aV];go_wp2_with fail
  go_ret
  exact ⟨rfl,G2.o⟩
 |true=>
  rw [aN];go_wp2_with fail
  go_ret
  exact ⟨rfl,G2.o⟩
theorem jM(node seq:Int)(x:bO){a:Option Addr}{n c:Nat}{w:World}(hs:bJ eP w (.slice a n c) x.drops)(hn:x.drops.length<=1000000):
  Calls prog 34 #[.int .i64 node,.int .i64 seq,.agg #[.int .i64 x.pos,.string (bt x.key),.string (bt x.field),.int .i64 x.kind,.string (bt x.elem),.int .i64 x.n,.slice a n c]] w (bH w (x.drops.any (dI node seq x.pos))):=by
 have B1:=((zB w (.cells #[.int .i64 node] 3)).alloc (by simp) (.cells #[.int .i64 seq] 3)).alloc (by simp;omega) (.cells #[.int .i64 x.pos,.string (bt x.key),.string (bt x.field),.int .i64 x.kind,.string (bt x.elem),.int .i64 x.n,.slice a n c] 58);have X:Hid (∀ W,Below w.heap.size w W ->W.cell? ⟨w.heap.size,0,none⟩=some (.int .i64 node) ->W.cell? ⟨w.heap.size+1,0,none⟩=some (.int .i64 seq) ->W.cell? ⟨w.heap.size+1+1,0,none⟩=some (.int .i64 x.pos) ->
   Calls prog 37 #[.slice a n c,.func (.func 49) #[] #[.pointer (some ⟨w.heap.size,0,none⟩),.pointer (some ⟨w.heap.size+1,0,none⟩),.pointer (some ⟨w.heap.size+1+1,0,none⟩)]] W (bH W (x.drops.any (dI node seq x.pos)))):=
  zH (fun W hb k1 k2 k3=>iM (hs.below hb) hn _ _ _ nM (fun W' d hb'=>pF node seq x.pos d _ _ _ W' ((hb'.cell (ay W _ k1)).trans k1) ((hb'.cell (ay W _ k2)).trans k2) ((hb'.cell (ay W _ k3)).trans k3)))
 have G:=zH B1;have k1:((((w.alloc (.cells #[.int .i64 node] 3)).alloc (.cells #[.int .i64 seq] 3)).alloc (.cells #[.int .i64 x.pos,.string (bt x.key),.string (bt x.field),.int .i64 x.kind,.string (bt x.elem),.int .i64 x.n,.slice a n c] 58))).cell? ⟨w.heap.size,0,none⟩=some (.int .i64 node):=(dR w _ _ _ _ _ _ 0).1;have k2:((((w.alloc (.cells #[.int .i64 node] 3)).alloc (.cells #[.int .i64 seq] 3)).alloc (.cells #[.int .i64 x.pos,.string (bt x.key),.string (bt x.field),.int .i64 x.kind,.string (bt x.elem),.int .i64 x.n,.slice a n c] 58))).cell? ⟨w.heap.size+1,0,none⟩=some (.int .i64 seq):=(dR w _ _ _ _ _ _ 0).2.1;have k3:((((w.alloc (.cells #[.int .i64 node] 3)).alloc (.cells #[.int .i64 seq] 3)).alloc (.cells #[.int .i64 x.pos,.string (bt x.key),.string (bt x.field),.int .i64 x.kind,.string (bt x.elem),.int .i64 x.n,.slice a n c] 58))).cell? ⟨w.heap.size+1+1,0,none⟩=some (.int .i64 x.pos):=(dR w _ _ _ _ _ _ 0).2.2;have k4:((((w.alloc (.cells #[.int .i64 node] 3)).alloc (.cells #[.int .i64 seq] 3)).alloc (.cells #[.int .i64 x.pos,.string (bt x.key),.string (bt x.field),.int .i64 x.kind,.string (bt x.elem),.int .i64 x.n,.slice a n c] 58))).cell? ⟨w.heap.size+1+1,6,none⟩=some (.slice a n c):=(dR w _ _ _ _ _ _ 6).2.2;clear hs hn B1;generalize x.drops.any (dI node seq x.pos)=r at*;go_enter func34,ntmps34
 go_upto_region 1 with fail
 generalize (((w.alloc _).alloc _).alloc _)=w1 at*;have K:=X.o w1 G.o k1 k2 k3;go_wp2_with fail
 refine K.mono ?_;rintro e w2 ⟨rfl,hb⟩;have G2:=zH (G.o.trans (hb.mono G.o.size));clear hb K k1 k2 k3 k4;go_wp2_with fail
 go_ret
 exact ⟨rfl,G2.o⟩
end Go.Proofs.Ytmknpmamkjjiaaa