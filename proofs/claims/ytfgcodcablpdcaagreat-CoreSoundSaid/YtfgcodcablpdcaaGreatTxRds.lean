import Derived.Test.YtfgcodcablpdcaaGreatTxIns
set_option linter.unusedVariables false
set_option maxRecDepth 100000
set_option maxHeartbeats 64000000
namespace Go.Proofs.YtfgcodcablpdcaaGreat.Plain
open Go.Proofs.Tryz
abbrev Rd:=Bytes×Int
def zA{α:Type}(c:iw α)(z:α)(s:Rd):α×Rd:=if s.2=0 then (match c.get s.1 with| .ok a r=>(a,(r,0))| .err e=>(z,(s.1,e))) else (z,s)
theorem OY{α:Type}{c:iw α}{z:α}{b r:Bytes}{a:α}(h:c.get b= .ok a r):zA c z (b,0)=(a,(r,0)):=by
 unfold zA
 rw [if_pos rfl]
 show (match c.get b with| .ok a r=>(a,((r,0):Rd))| .err e=>(z,(b,e)))=_
 rw [h]
theorem Df{α:Type}{c:iw α}{z:α}{b:Bytes}{e:Int}(h:c.get b= .err e):zA c z (b,0)=(z,(b,e)):=by
 unfold zA
 rw [if_pos rfl]
 show (match c.get b with| .ok a r=>(a,((r,0):Rd))| .err e=>(z,(b,e)))=_
 rw [h]
theorem zC{α:Type}{c:iw α}{z:α}{b:Bytes}{k:Int}(h:k≠0):zA c z (b,k)=(z,(b,k)):=by
 unfold zA
 rw [if_neg h]
structure O9{α:Type}(get:Bytes ->mq α)(f:Rd ->α×Rd):Prop where
 ok:∀ {b a r},get b= .ok a r ->f (b,0)=(a,(r,0))
 err:∀ {b e},get b= .err e ->(f (b,0)).2.2=e
 past:∀ b k,k≠0 ->(f (b,k)).2.2=k
theorem wF{α:Type}(c:iw α)(z:α):O9 c.get (zA c z):=
 ⟨fun h=>OY h,fun h=>by rw [Df h],fun b k h=>by rw [zC h]⟩
def rret{α:Type}(a:α):Rd ->α×Rd:=fun s=>(a,s)
def Tm{α β:Type}(f:Rd ->α×Rd)(g:α ->Rd ->β×Rd):Rd ->β×Rd:=fun s=>g (f s).1 (f s).2
theorem Gs{α:Type}(a:α):O9 (fun b=> .ok a b) (rret a):=⟨fun h=>(by cases h;rfl),fun h=>(by cases h),fun b k _=>rfl⟩
theorem wG{α β:Type}{g1:Bytes ->mq α}{f1:Rd ->α×Rd}{g2:α ->Bytes ->mq β}{f2:α ->Rd ->β×Rd}(h1:O9 g1 f1)(hb:∀ {b e},g1 b= .err e ->e≠0)(h2:∀ a,O9 (g2 a) (f2 a)):O9 (fun b=>(g1 b).bind (g2 · ·)) (Tm f1 f2):=by
 refine ⟨fun {b x r} h=> ?_,fun {b e} h=> ?_,fun b k hk=> ?_⟩
 ·obtain ⟨a,m,e1,e2⟩:=mq.bind_ok h
  show f2 (f1 (b,0)).1 (f1 (b,0)).2=_
  rw [h1.ok e1];exact (h2 a).ok e2
 ·show (f2 (f1 (b,0)).1 (f1 (b,0)).2).2.2=_
  rcases mq.lM h with h|⟨a,m,e1,e2⟩
  ·have e3:=h1.err h
   have hne:=hb h;generalize f1 (b,0)=p at*;obtain ⟨a,m,k⟩:=p;change k=e at e3;subst e3;exact (h2 a).past m k hne
  ·rw [h1.ok e1]
   exact (h2 a).err e2
 ·show (f2 (f1 (b,k)).1 (f1 (b,k)).2).2.2=_
  have e3:=h1.past b k hk;generalize f1 (b,k)=p at*;obtain ⟨a,m,k2⟩:=p;change k2=k at e3;subst e3;exact (h2 a).past m k2 hk
theorem qj{α β:Type}{c:iw α}{d:iw β}{f:Rd ->α×Rd}{g:Rd ->β×Rd}(h1:O9 c.get f)(h2:O9 d.get g):O9 (c.seq d).get (Tm f fun a=>Tm g fun x=>rret (a,x)):=
 wG h1 c.bad fun a=>wG h2 d.bad fun x=>Gs (a,x)
theorem Gt{α β:Type}{c:iw α}{F:α ->β}{G:β ->α}{hh:∀ a,c.ok a ->G (F a)=a}{f:Rd ->α×Rd}(h1:O9 c.get f):O9 (c.emb F G hh).get (Tm f fun a=>rret (F a)):=
 wG h1 c.bad fun a=>Gs (F a)
def rN{α:Type}(f:Rd ->α×Rd):Nat ->Rd ->List α×Rd
 |0,s=>([],s)
 |k+1,s=>((f s).1::(rN f k (f s).2).1,(rN f k (f s).2).2)
theorem Gu{α:Type}(f:Rd ->α×Rd):∀ (k:Nat) (s:Rd),rN f (k+1) s=((rN f k s).1++[(f (rN f k s).2).1],(f (rN f k s).2).2)
 |0,s=>rfl
 |k+1,s=>by
  show ((f s).1::(rN f (k+1) (f s).2).1,(rN f (k+1) (f s).2).2)=_
  rw [Gu f k (f s).2]
  rfl
theorem Pb{α:Type}(f:Rd ->α×Rd):∀ (k:Nat) (s:Rd),(rN f k s).1.length=k
 |0,s=>rfl
 |k+1,s=>by show (rN f k (f s).2).1.length+1=_;rw [Pb f k]
theorem sim_N{α:Type}{c:iw α}{f:Rd ->α×Rd}(h:O9 c.get f):∀ k,O9 (Ao c k) (rN f k)
 |0=>Gs []
 |k+1=>wG h c.bad fun a=>wG (sim_N h k) (Gz c k) fun l=>Gs (a::l)
def jU(k:Nat)(s:Rd):Nat×Rd:=if k<(zA iZ 0 s).1 then (0,((zA iZ 0 s).2.1,2)) else zA iZ 0 s
theorem Er(k:Nat)(s:Rd):(jU k s).1<=k:=by
 unfold jU
 split
 ·exact aL _
 ·omega
theorem V4{b:Bytes}{e:Int}(h:jh b= .err e):e≠0:=iZ.bad h
theorem aal(k:Nat):O9 (fun b=>(jh b).bind fun n r=>if k<n then .err 2 else .ok n r) (jU k):=by
 have S:=wF iZ 0;refine ⟨fun {b a r} h=> ?_,fun {b e} h=> ?_,fun b j hj=> ?_⟩
 ·obtain ⟨n,m,h1,h2⟩:=mq.bind_ok h
  split at h2
  ·cases h2
  ·rename_i hn
   cases h2
   unfold jU;rw [S.ok (show iZ.get b=_ from h1),if_neg hn]
 ·rcases mq.lM h with h|⟨n,m,h1,h2⟩
  ·unfold jU
   rw [Df (show iZ.get b=_ from h),if_neg (by show ¬ k<0;omega)]
  ·split at h2
   ·rename_i hn
    cases h2
    unfold jU;rw [S.ok (show iZ.get b=_ from h1),if_pos hn]
   ·cases h2
 ·unfold jU
  rw [zC hj,if_neg (by show ¬ k<0;omega)]
theorem oH{α β γ:Type}(r:mq α)(f:α ->Bytes ->mq β)(g:β ->Bytes ->mq γ):(r.bind f).bind g=r.bind fun a m=>(f a m).bind g:=by cases r<;>rfl
theorem JM{α:Type}{c:iw α}{f:Rd ->α×Rd}(h:O9 c.get f)(k:Nat)(hk:k<72057594037927936)(he:(2:Int)≠0):O9 (c.list k 2 hk he).get (Tm (jU k) fun n=>rN f n):=by
 have H:=wG (g2:=fun n r=>Ao c n r) (aal k) (fun {b e} h=>by
  rcases mq.lM h with h|⟨n,m,-,h⟩
  ·exact V4 h
  ·split at h
   ·cases h;decide
   ·cases h) fun n=>sim_N h n
 have e:(c.list k 2 hk he).get=fun b=>((jh b).bind fun n r=>if k<n then mq.err 2 else .ok n r).bind fun n r=>Ao c n r:=by
  funext b
  rw [oH]
  show (jh b).bind _=(jh b).bind _
  congr 1
  funext n r
  split<;>rfl
 rw [e];exact H
def iN(s:Rd):Int×Rd:=(((zA iZ 0 s).1:Int),(zA iZ 0 s).2)
theorem uS:O9 kP.get iN:=Gt (wF iZ 0)
def Ar(s:Rd):gB×Rd:=(⟨(iN s).1,(iN (iN s).2).1,(iN (iN (iN s).2).2).1⟩,(iN (iN (iN s).2).2).2)
theorem sim_dot:O9 yj.get Ar:=Gt (qj uS (qj uS uS))
def mF{α:Type}(f:Rd ->α×Rd)(k:Nat)(s:Rd):List α×Rd:=rN f (jU k s).1 (jU k s).2
def jK:Rd ->iE×Rd:=zA iQ []
def Ki:Rd ->Int×Rd:=zA qz 0
def re1(s:Rd):Rd:=(iN s).2
def re2(s:Rd):Rd:=(jK (re1 s)).2
def re3(s:Rd):Rd:=(jK (re2 s)).2
def re4(s:Rd):Rd:=(iN (re3 s)).2
def re5(s:Rd):Rd:=(jK (re4 s)).2
def re6(s:Rd):Rd:=(Ki (re5 s)).2
def wH(s:Rd):gD×Rd:=(⟨(iN s).1,(jK (re1 s)).1,(jK (re2 s)).1,(iN (re3 s)).1,(jK (re4 s)).1,(Ki (re5 s)).1,(mF Ar 64 (re6 s)).1⟩,(mF Ar 64 (re6 s)).2)
theorem sim_eff:O9 Gc.get wH:=Gt (qj uS (qj (wF iQ []) (qj (wF iQ []) (qj uS (qj (wF iQ []) (qj (wF qz 0) (JM sim_dot 64 _ _)))))))
def rt1(s:Rd):Rd:=(iN s).2
def rt2(s:Rd):Rd:=(iN (rt1 s)).2
def rt3(s:Rd):Rd:=(mF iN 8 (rt2 s)).2
def Ee(s:Rd):fI×Rd:=(⟨(iN s).1,(iN (rt1 s)).1,(mF iN 8 (rt2 s)).1,(mF wH 8 (rt3 s)).1⟩,(mF wH 8 (rt3 s)).2)
theorem Gv:O9 AB.get Ee:=Gt (qj uS (qj uS (qj (JM uS 8 _ _) (JM sim_eff 8 _ _))))
theorem read_err{b:Bytes}{k:Int}(h:(Ee (b,0)).2.2=k)(hk:k≠0):kC.get b= .err k:=by
 show (AB.get b).bind _=_
 cases e:AB.get b with
 |ok a r=>rw [Gv.ok e] at h;exact absurd h.symm hk
 |err j=>rw [Gv.err e] at h;subst h;rfl
theorem YZ{b:Bytes}(h:(Ee (b,0)).2.2=0):AB.ok (Ee (b,0)).1/\kC.get b=if fQ (Ee (b,0)).1=true then .ok (Ee (b,0)).1 (Ee (b,0)).2.1 else .err 2:=by
 show _/\(AB.get b).bind _=_
 cases e:AB.get b with
 |ok a r=>rw [Gv.ok e];exact ⟨(AB.bwd e).1,rfl⟩
 |err j=>rw [Gv.err e] at h;exact absurd h (AB.bad e)
theorem Pd:∀ (k i a:Nat) (xs:Bytes),i+k=8 ->rd i a (xs.take k)=rd i a xs
 |0,i,a,xs,h=>by
  rw [List.take_zero,Dh,if_neg (by omega)]
  cases xs with
  |nil=>rw [Dh,if_neg (by omega)]
  |cons c r=>rw [Mq _ _ _ _ (by omega)]
 |k+1,i,a,[],h=>by rw [List.take_nil]
 |k+1,i,a,c::r,h=>by
  rw [List.take_succ_cons]
  by_cases g:128<=c.toNat
  ·rw [uG _ _ _ _ (by omega) g,uG _ _ _ _ (by omega) g]
   exact Pd k (i+1) _ r (by omega)
  ·by_cases z:c.toNat=0/\0<i
   ·rw [zI _ _ _ _ (by omega) z.1 z.2,zI _ _ _ _ (by omega) z.1 z.2]
   ·rw [sJ _ _ _ _ (by omega) (by omega) (by omega),sJ _ _ _ _ (by omega) (by omega) (by omega)]
theorem Es(xs:Bytes)(k:Nat)(hk:8<=k):read (xs.take k)=read xs:=by
 have h1:rd 0 0 (xs.take 8)=rd 0 0 xs:=Pd 8 0 0 xs rfl;have h2:rd 0 0 ((xs.take k).take 8)=rd 0 0 (xs.take k):=Pd 8 0 0 _ rfl;rw [List.take_take,Nat.min_eq_left hk] at h2;exact h2.symm.trans h1
def uf{α:Type}(m:Nat)(b:Bytes):mq α ->mq α
 | .ok a r=> .ok a (b.drop (min m b.length-r.length))
 | .err e=> .err e
theorem Lv(b:Bytes)(m:Nat)(hm:8<=m):iZ.get b=uf m b (iZ.get (b.take m)):=by
 show jh b=uf m b (jh (b.take m))
 have e:=Es b m hm
 rcases oL b with ⟨n,s,h⟩|h|h
 ·rw [lN h,lN (e.trans h)]
  obtain ⟨-,-,-,h3,h4⟩:=qy h
  show _=mq.ok n (b.drop _)
  congr 2
  rw [bB,aO];omega
 ·rw [iW h (by decide),iW (e.trans h) (by decide)];rfl
 ·rw [iW h (by decide),iW (e.trans h) (by decide)];rfl
theorem Lx(b:Bytes):qz.get b=uf 8 b (qz.get (b.take 8)):=by
 show mJ b=uf 8 b (mJ (b.take 8))
 unfold mJ;rw [aO,List.take_take,Nat.min_self]
 by_cases h:b.length<8
 ·rw [if_pos h,if_pos (by omega)];rfl
 ·rw [if_neg h,if_neg (by omega)]
  show _=mq.ok _ (b.drop _)
  congr 2
  rw [bB,aO];omega
def sI(b:Bytes):Nat:=8+(match jh (b.take 8) with| .ok n _=>n| .err _=>0)
theorem Jc(b:Bytes):iQ.get b=uf (sI b) b (iQ.get (b.take (sI b))):=by
 show uH b=uf _ b (uH (b.take _))
 have e8:=Es b 8 (ah _);have hm:8<=sI b:=by unfold sI;omega
 have em:=Es b (sI b) hm;unfold uH
 rcases oL b with ⟨n,s,h⟩|h|h
 ·obtain ⟨-,-,-,h3,h4⟩:=qy h
  have ht:sI b=8+n:=by
   unfold sI;rw [lN (e8.trans h)]
  rw [lN h,lN (em.trans h),ht]
  show (if 65536<n then mq.err 4 else if (b.drop s).length<n then .err 3 else .ok (Wm ((b.drop s).take n)) ((b.drop s).drop n))=uf (8+n) b (if 65536<n then mq.err 4 else if ((b.take (8+n)).drop s).length<n then .err 3 else .ok (Wm (((b.take (8+n)).drop s).take n)) (((b.take (8+n)).drop s).drop n))
  by_cases g:65536<n
  ·rw [if_pos g,if_pos g];rfl
  ·rw [if_neg g,if_neg g]
   rw [bB,bB,aO]
   by_cases g2:b.length-s<n
   ·rw [if_pos g2,if_pos (by omega)];rfl
   ·rw [if_neg g2,if_neg (by omega)]
    have e1:((b.take (8+n)).drop s).take n=(b.drop s).take n:=by
     rw [List.drop_take,List.take_take,Nat.min_eq_left (by omega)]
    rw [e1]
    show _=mq.ok _ (b.drop _)
    congr 1
    rw [List.drop_drop]
    congr 1
    rw [bB,bB,aO];omega
 ·rw [iW h (by decide),iW (em.trans h) (by decide)];rfl
 ·rw [iW h (by decide),iW (em.trans h) (by decide)];rfl
theorem vW{b r:Bytes}{n:Nat}(h:iZ.get b= .ok n r):r.length<b.length:=by
 change jh b=_ at h
 rcases oL b with ⟨m,s,g⟩|g|g
 ·rw [lN g] at h
  cases h
  obtain ⟨-,-,h1,-,h2⟩:=qy g;rw [bB];omega
 ·rw [iW g (by decide)] at h;cases h
 ·rw [iW g (by decide)] at h;cases h
theorem zZ{b r:Bytes}{n:Int}(h:qz.get b= .ok n r):r.length<b.length:=by
 change mJ b=_ at h;unfold mJ at h
 split at h
 ·cases h
 ·cases h
  rw [bB];omega
theorem xu{b r:Bytes}{n:iE}(h:iQ.get b= .ok n r):r.length<b.length:=by
 obtain ⟨n,m,h1,h2⟩:=mq.bind_ok h;have h3:=vW (show iZ.get b=_ from h1)
 split at h2
 ·cases h2
 ·split at h2
  ·cases h2
  ·cases h2
   rw [bB];omega
def Shr{α:Type}(f:Rd ->α×Rd):Prop:=∀ s,(f s).2.1.length<=s.1.length
theorem JN{α:Type}{c:iw α}(z:α)(h:∀ {b r:Bytes} {a:α},c.get b= .ok a r ->r.length<b.length):Shr (zA c z):=by
 intro s;unfold zA
 split
 ·cases e:c.get s.1 with
  |ok a r=>exact aT (h e)
  |err k=>exact ah _
 ·exact ah _
theorem Tn{α:Type}{f:Rd ->α×Rd}(h:Shr f):∀ k,Shr (rN f k)
 |0,s=>ah _
 |k+1,s=>ak (Tn h k (f s).2) (h s)
theorem JO:Shr (zA iZ 0):=JN 0 vW
theorem lK:Shr iN:=fun s=>JO s
theorem Al(k:Nat):Shr (jU k):=by
 intro s;unfold jU
 split
 ·exact JO s
 ·exact JO s
theorem CK{α:Type}{f:Rd ->α×Rd}(h:Shr f)(k:Nat):Shr (mF f k):=fun s=>ak (Tn h _ _) (Al k s)
theorem Xg:Shr Ar:=fun s=>ak (lK _) (ak (lK _) (lK _))
theorem wI:Shr jK:=JN [] xu
theorem Xh:Shr Ki:=JN 0 zZ
theorem le_e1(s:Rd):(re1 s).1.length<=s.1.length:=lK s
theorem le_e2(s:Rd):(re2 s).1.length<=s.1.length:=ak (wI _) (le_e1 s)
theorem le_e3(s:Rd):(re3 s).1.length<=s.1.length:=ak (wI _) (le_e2 s)
theorem le_e4(s:Rd):(re4 s).1.length<=s.1.length:=ak (lK _) (le_e3 s)
theorem le_e5(s:Rd):(re5 s).1.length<=s.1.length:=ak (wI _) (le_e4 s)
theorem le_e6(s:Rd):(re6 s).1.length<=s.1.length:=ak (Xh _) (le_e5 s)
theorem WY:Shr wH:=fun s=>ak (CK Xg 64 _) (le_e6 s)
theorem le_t1(s:Rd):(rt1 s).1.length<=s.1.length:=lK s
theorem le_t2(s:Rd):(rt2 s).1.length<=s.1.length:=ak (lK _) (le_t1 s)
theorem le_t3(s:Rd):(rt3 s).1.length<=s.1.length:=ak (CK lK 8 _) (le_t2 s)
def fZ(l:List Int):Bytes:=l.flatMap fun n=>form n.toNat
def iT(l:List iE):Bytes:=l.flatMap fun s=>form s.length++wO s
def zx(l:List gB):Bytes:=l.flatMap fun d=>fZ [d.node,d.seq,d.pos]
def zy(e:gD):Bytes:=fZ [e.pos]++iT [e.key,e.field]++fZ [e.kind]++iT [e.elem]++lI e.n++fZ [(e.drops.length:Int)]++zx e.drops
def aam(t:fI):Bytes:=fZ [t.node,t.seq,(t.deps.length:Int)]++fZ t.deps++fZ [(t.effs.length:Int)]++t.effs.flatMap zy
theorem Ra(d:gB):fZ [d.node,d.seq,d.pos]=yj.put d:=by
 show form d.node.toNat++(form d.seq.toNat++(form d.pos.toNat++[]))=form d.node.toNat++(form d.seq.toNat++form d.pos.toNat)
 rw [aV]
theorem peff_put(e:gD):zy e=Gc.put e:=by
 have h:zx e.drops=iA yj e.drops:=by
  unfold zx iA
  congr 1
  funext d
  exact Ra d
 unfold zy;rw [h]
 show _=form e.pos.toNat++((form e.key.length++wO e.key)++((form e.field.length++wO e.field)++(form e.kind.toNat++((form e.elem.length++wO e.elem)++(lI e.n++(form e.drops.length++iA yj e.drops))))))
 simp [fZ,iT,List.append_assoc]
theorem ptxn_put(t:fI):aam t=kC.put t:=by
 have h:t.effs.flatMap zy=iA Gc t.effs:=by
  unfold iA
  congr 1
  funext e
  exact peff_put e
 unfold aam;rw [h]
 show _=form t.node.toNat++(form t.seq.toNat++((form t.deps.length++iA kP t.deps)++(form t.effs.length++iA Gc t.effs)))
 have h2:fZ t.deps=iA kP t.deps:=rfl;rw [h2];simp [fZ,List.append_assoc]
end Go.Proofs.YtfgcodcablpdcaaGreat.Plain
namespace Go.Proofs.YtfgcodcablpdcaaGreat
open Go.Proofs.Tryz
open Go.RowKit Plain
structure But(g:Nat)(w w':World):Prop where
 below:Below g w w'
 block:∀ k,k<w.heap.size ->k≠g ->w'.heap[k]? =w.heap[k]?
theorem But.refl(g:Nat)(w:World):But g w w:=⟨aj _ _,fun _ _ _=>rfl⟩
theorem But.trans{g:Nat}{a b c:World}(h:But g a b)(k:But g b c):But g a c:=
 ⟨h.below.trans k.below,fun j hj hne=>(k.block j (ay hj h.below.size) hne).trans (h.block j hj hne)⟩
theorem But.of{g:Nat}{w w':World}(h:Below w.heap.size w w')(hg:g<=w.heap.size):But g w w':=⟨h.mono hg,fun k hk _=>h.block k hk⟩
theorem But.set(g:Nat)(w:World)(i:Nat)(v:Value):But g w (w.setCell ⟨g,i,none⟩ v):=
 ⟨(aj g w).setCell (ah _) v,fun k _ hne=>aN _ _ _ _ hne⟩
theorem But.then{g:Nat}{a b c:World}(h:But g a b)(k:Below b.heap.size b c)(hg:g<=b.heap.size):But g a c:=h.trans (But.of k hg)
theorem But.size{g:Nat}{w w':World}(h:But g w w'):w.heap.size<=w'.heap.size:=h.below.size
def rdb(a:Option Addr)(n c:Nat)(e:Int):Obj:= .cells #[.slice a n c,.int .i64 e] 284 (0,0)
theorem mQ{w:World}{g:Nat}{a:Option Addr}{n c:Nat}{e:Int}(h:w.heap[g]? =some (rdb a n c e)):
  w.cell? ⟨g,0,none⟩=some (.slice a n c)/\w.cell? ⟨g,1,none⟩=some (.int .i64 e)/\w.frozen? ⟨g,0,none⟩=false/\w.frozen? ⟨g,1,none⟩=false:=by
 unfold rdb at h;refine ⟨?_,?_,?_,?_⟩
 ·simp [World.cell?,h]
 ·simp [World.cell?,h]
 ·unfold World.frozen?;rw [h];simp
 ·unfold World.frozen?;rw [h];simp
def NT(g:Nat)(a:Option Addr):Prop:=∀ ad,a=some ad ->ad.block<g
theorem tq{w w':World}{g:Nat}{a:Option Addr}{n c:Nat}{xs:Bytes}(hs:By.Seq w (.slice a n c) xs)(hl:0<xs.length ->NT g a)(hb:Below g w w'):By.Seq w' (.slice a n c) xs:=by
 obtain ⟨a',cap,hv,h1,h2,h0,h3⟩:=hs;refine ⟨a',cap,hv,h1,h2,h0,fun hp=> ?_⟩;obtain ⟨b,off,rfl,hc⟩:=h3 hp;simp only [aC] at hv
 have hlt:b<g:=hl hp ⟨b,off,none⟩ hv.1;exact ⟨b,off,rfl,fun j hj=>(hb.cell (p:=⟨b,off+j,none⟩) hlt).trans (hc j hj)⟩
def jB(w:World)(g:Nat)(s:Rd):Prop:=∃ a c,w.heap[g]? =some (rdb a s.1.length c s.2)/\By.Seq w (.slice a s.1.length c) s.1/\(0<s.1.length ->NT g a)
theorem jB.lt{w:World}{g:Nat}{s:Rd}(h:jB w g s):g<w.heap.size:=by
 obtain ⟨a,c,h,-⟩:=h;exact (aH.1 h).1
theorem jB.keep{w w':World}{g:Nat}{s:Rd}(h:jB w g s)(hb:Below g w w')(he:w'.heap[g]? =w.heap[g]?):jB w' g s:=by
 obtain ⟨a,c,h,hs,hl⟩:=h;exact ⟨a,c,he.trans h,tq hs hl hb,hl⟩
theorem jB.below{w w':World}{g:Nat}{s:Rd}(h:jB w g s)(hb:Below w.heap.size w w'):jB w' g s:=h.keep (hb.mono (aT h.lt)) (hb.block g h.lt)
theorem jB.grown{w w':World}{g:Nat}{s:Rd}{row:Option Nat}(h:jB w g s)(hg:w.grownBy w' row)(hr:∀ k,row=some k ->g<k):jB w' g s:=
 h.keep ((aj g w).grown hg (aT h.lt) fun k hk=>aT (hr k hk)) (hg.block g h.lt fun e=>by have:=hr g e.symm;omega)
theorem jB.store{w:World}{g R i:Nat}{s:Rd}{v:Value}(h:jB w g s)(hR:g<R):jB (w.setCell ⟨R,i,none⟩ v) g s:=
 h.keep ((aj g w).setCell (aT hR) v) (aN _ _ _ _ (Nat.ne_of_lt hR))
theorem jB.parts{w:World}{g:Nat}{s:Rd}(h:jB w g s):∃ a n c,n=s.1.length/\n<=c/\c<=9223372036854775807/\(a=none ->c=0)/\w.heap[g]? =some (rdb a n c s.2)/\By.Seq w (.slice a n c) s.1/\(0<s.1.length ->NT g a):=by
 obtain ⟨a,c,h,hs,hl⟩:=h;have hs':=hs;obtain ⟨a',c',hv,h1,h2,h0,-⟩:=hs';simp only [aC] at hv
 obtain ⟨rfl,-,rfl⟩:=hv;exact ⟨a,_,c,rfl,h1,h2,h0,h,hs,hl⟩
theorem But.grown{g:Nat}{w u w':World}{row:Option Nat}(h:But g w u)(hg:u.grownBy w' row)(hw:g<w.heap.size)(hr:∀ k,row=some k ->w.heap.size<=k):But g w w':=by
 have hs:=h.below.size;exact ⟨h.below.grown hg (by omega) fun k hk=>by have:=hr k hk;omega,fun k hk hne=>(hg.block k (by omega) fun e=>by have:=hr k e.symm;omega).trans (h.block k hk hne)⟩
theorem But.alloc{g:Nat}{w u:World}(h:But g w u)(hw:g<w.heap.size)(o:Obj):But g w (u.alloc o):=by
 have hs:=h.below.size;exact ⟨h.below.alloc (by omega) o,fun k hk hne=>(Below.heap_alloc _ _ _ (by omega)).trans (h.block k hk hne)⟩
theorem But.store{g R i:Nat}{w u:World}{v:Value}(h:But g w u)(hw:g<w.heap.size)(hR:w.heap.size<=R):But g w (u.setCell ⟨R,i,none⟩ v):=
 ⟨h.below.setCell (ak (aT hw) hR) v,fun k hk hne=>(aN _ _ _ _ (by show k≠R;omega)).trans (h.block k hk hne)⟩
theorem rdb_set0{w:World}{g:Nat}{a a':Option Addr}{n c n' c':Nat}{e:Int}(h:w.heap[g]? =some (rdb a n c e)):(w.setCell ⟨g,0,none⟩ (.slice a' n' c')).heap[g]? =some (rdb a' n' c' e):=
 aB _ g 0 _ _ _ h
theorem rdb_set1{w:World}{g:Nat}{a:Option Addr}{n c:Nat}{e e':Int}(h:w.heap[g]? =some (rdb a n c e)):(w.setCell ⟨g,1,none⟩ (.int .i64 e')).heap[g]? =some (rdb a n c e'):=
 aB _ g 1 _ _ _ h
theorem qU{w:World}{g:Nat}{a a':Option Addr}{n c c':Nat}{e:Int}{r:Bytes}(h:w.heap[g]? =some (rdb a n c e))(hs:By.Seq w (.slice a' r.length c') r)(hl:0<r.length ->NT g a'):jB (w.setCell ⟨g,0,none⟩ (.slice a' r.length c')) g (r,e):=
 ⟨a',c',rdb_set0 h,tq hs hl (But.set g w 0 _).below,hl⟩
theorem Am{w:World}{g:Nat}{a:Option Addr}{c:Nat}{e e':Int}{r:Bytes}(h:w.heap[g]? =some (rdb a r.length c e))(hs:By.Seq w (.slice a r.length c) r)(hl:0<r.length ->NT g a):jB (w.setCell ⟨g,1,none⟩ (.int .i64 e')) g (r,e'):=
 ⟨a,c,rdb_set1 h,tq hs hl (But.set g w 1 _).below,hl⟩
def pq{α:Type}(val:World ->Value ->α ->Prop)(w:World)(g:Nat)(p:α×Rd)(e:Ending)(w':World):Prop:=∃ v,e= .returned v/\val w' v p.1/\jB w' g p.2/\But g w w'
theorem gy.but{α:Type}{L:El α}(hf:Flat L){B g:Nat}{w w':World}{v:Value}{xs:List α}(h:gy L B w v xs)(hb:But g w w')(hg:g<B):gy L B w' v xs:=by
 obtain ⟨vals,ho,hr⟩:=h;refine ⟨vals,⟨ho.1,?_⟩,⟨hr.1,fun j x hj=>hf (hr.2 j x hj)⟩⟩
 rcases ho.2 with hn|⟨g',cap,cur,hv,hb',hg',hr'⟩
 ·exact .inl hn
 ·have hlt:g'<w.heap.size:=(aH.1 hg').1
  exact .inr ⟨g',cap,cur,hv,hb',(hb.block g' hlt (by omega)).trans hg',hr'⟩
theorem iO.but{α:Type}{L:El α}{J:Nat ->Prop}{B g:Nat}{w w':World}{v:Value}{xs:List α}(h:iO J L B w v xs)(hb:But g w w')(hg:g<B)(hj:∀ b,J b ->b≠g):iO J L B w' v xs:=
 h.kept hb.size fun b hl hq=>hb.block b hl (hq.elim (hj b) fun k=>by omega)
theorem one_effN{W:World}{x:gD}{dv:Value}{C N:Nat}{ov:Value}(hs:Sq jI (fun b=>C<=b/\b<W.heap.size) W dv x.drops)(hg:∀ k,ov.ownBlock=some k ->k<C)(hz:C<=W.heap.size)(hN:N<=C):
  Sq jo (fun b=>N<=b/\b<(W.alloc (.cells #[.int .i64 x.pos,.string (bt x.key),.string (bt x.field),.int .i64 x.kind,.string (bt x.elem),.int .i64 x.n,dv] 85)).heap.size/\ov.ownBlock≠some b) (W.alloc (.cells #[.int .i64 x.pos,.string (bt x.key),.string (bt x.field),.int .i64 x.kind,.string (bt x.elem),.int .i64 x.n,dv] 85)) (.slice (some ⟨W.heap.size,0,none⟩) 1 1) [x]:=by
 have hS:(W.alloc (.cells #[.int .i64 x.pos,.string (bt x.key),.string (bt x.field),.int .i64 x.kind,.string (bt x.elem),.int .i64 x.n,dv] 85)).heap.size=W.heap.size+1:=by simp
 rw [hS];have hB:Below W.heap.size W (W.alloc (.cells #[.int .i64 x.pos,.string (bt x.key),.string (bt x.field),.int .i64 x.kind,.string (bt x.elem),.int .i64 x.n,dv] 85)):=(aj _ _).alloc (ah _) _;have hin:Sq jI (fun b=>N<=b/\b<W.heap.size+1/\ov.ownBlock≠some b) (W.alloc (.cells #[.int .i64 x.pos,.string (bt x.key),.string (bt x.field),.int .i64 x.kind,.string (bt x.elem),.int .i64 x.n,dv] 85)) dv x.drops:=
  (Sq.agree hs fun b hb=>hB.block b hb.2).mono fun b hb=>⟨by omega,by omega,fun e=>by have:=hg b e;omega⟩
 refine ⟨_,1,Cn x dv,rfl,ah _,by unfold maxLen;simp,(by simp),Rows.Bc ⟨_,rfl,hin⟩,fun _=>⟨_,0,rfl,⟨by omega,by omega,fun e=>by have:=hg _ e;omega⟩,fun i u' hu=> ?_⟩⟩;rw [aJ];have:=bg W #[.int .i64 x.pos,.string (bt x.key),.string (bt x.field),.int .i64 x.kind,.string (bt x.elem),.int .i64 x.n,dv] 85 i;rw [this,<-cB];exact hu
theorem one_int(W:World)(x:Int):fM gL (W.alloc (.cells #[.int .i64 x] 3)) (.slice (some ⟨W.heap.size,0,none⟩) 1 1) [x]:=fM.one (L:=gL) (w:=W) (vs:=[.int .i64 x]) (x:=x) rfl #[.int .i64 x] rfl
theorem one_dotR(W:World)(d:gB):fM jI (W.alloc (.cells #[.int .i64 d.node,.int .i64 d.seq,.int .i64 d.pos] 77)) (.slice (some ⟨W.heap.size,0,none⟩) 1 1) [d]:=fM.one (L:=jI) (w:=W) (vs:=sN d) (x:=d) rfl #[.int .i64 d.node,.int .i64 d.seq,.int .i64 d.pos] rfl
theorem xK{w:World}{g:Nat}{s:Rd}(hx:jB w g s)(m:Nat)(hm:m<=100000000000000000):Calls prog 332 #[.pointer (some ⟨g,0,none⟩),.int .i64 m] w fun e w'=>∃ a k c,k=min m s.1.length/\e= .returned (.slice a k c)/\By.Seq w' (.slice a k c) (s.1.take m)/\Below w.heap.size w w':=by
 obtain ⟨a,n,c,hn,h1,h2,h0,hh,hs,-⟩:=hx.parts;obtain ⟨c0,-,-,-⟩:=mQ hh;obtain ⟨k,hk⟩:∃ k,k=min m s.1.length:=⟨_,rfl⟩;have hf:=hs.first k (by omega);have e:s.1.take k=s.1.take m:=by rw [hk,<-List.take_eq_take_min]
 rw [e] at hf;have HF:=zH hf;have M1:min (m:Int) (n:Int)=(k:Int):=by omega
 have m1:(k:Int)<=n:=by omega
 have m2:(k:Int)<=c:=by omega
 have m3:(0:Int)<=k:=by omega
 have m4:(n:Int)<=c:=by omega
 have HK:=zH hk;have HN:=zH hn;clear hx hs hh hf e hn hk h0;go_enter func332,ntmps332
 go_wp2_with fail
 go_quiet (fail)
 go_wp2_with fail
 go_ret
 exact ⟨_,_,_,HK.o,rfl,HF.o.below (below_drewN (aj _ _) _),below_drewN (aj _ _) _⟩
def vN(_:World)(v:Value)(n:Nat):Prop:=v= .int .i64 n
def vI(_:World)(v:Value)(n:Int):Prop:=v= .int .i64 n
def vT(_:World)(v:Value)(t:iE):Prop:=v= .string (bt t)
theorem aan{w:World}{g:Nat}{s:Rd}(hx:jB w g s)(hl:s.1.length<=100000):Calls prog 321 #[.pointer (some ⟨g,0,none⟩),.int .i64 8,.func (.func 41) #[] #[]] w (pq vN w g (zA iZ 0 s)):=by
 obtain ⟨r,k⟩:=s;obtain ⟨a0,n0,cc,hn0,h1,h2,h0,hh,hs,-⟩:=hx.parts;obtain ⟨c0,c1,f0,f1⟩:=mQ hh;have HX:=zH hx
 by_cases hk:k=0
 ·subst hk
  have KF:=xK hx 8 (by decide);have HL:iZ.get r=uf 8 r (iZ.get (r.take 8)):=Lv r 8 (ah _);have eg:∀ args w,(callFunc 41 args).run prog w= .ok (.enter 41 args) w:=enters_of func41 (by kernel_rfl) rfl;have HG:=zH hx.lt;have e0:((0:Int) !=0)=false:=by decide
  have hlr:(r.take 8).length<=1000000000:=by
   have:=bM 8 r;have h3:r.length<=100000:=hl;have h4:=dK 8 r;omega
  cases hres:iZ.get (r.take 8) with
  |err j=>
   have hj:j≠0:=iZ.bad hres;rw [hres] at HL;have HE:=zH (Df (z:=0) HL);have e1:(j !=0)=true:=bne_iff_ne.2 hj;clear hx hs hh HL;go_enter func321,ntmps321
   go_wp2_with fail
   refine KF.mono ?_;rintro e w1 ⟨a1,k1,Vj,-,rfl,hs1,hb⟩;have KR:=By.uM hs1 hlr;rw [hres] at KR;have HB:=zH hb;have uo:=zH (HX.o.below hb);clear hs1 hb KF hres c0 c1 f0 f1;go_upto_region 6 with (go_at_fn 41;refine KR.mono ?_;rintro e w2 ⟨rfl,rfl⟩)
   obtain ⟨a2,n2,c2,hn2,-,-,-,hh2,hs2,hl2⟩:=uo.o.parts;have HL2:=zH hl2;obtain ⟨d0,d1,f0,f1⟩:=mQ hh2;have mP:=zH hh2;have ze:=zH hs2;have HN:=zH hn2;clear hh2 hs2 hn2 KR;go_wp2_with fail
   go_ret
   rw [HE.o];have hn3:n2=r.length:=HN.o;subst hn3;exact ⟨_,rfl,rfl,Am mP.o ze.o HL2.o,(But.of HB.o (aT HG.o)).trans (But.set _ _ _ _)⟩
  |ok x q=>
   rw [hres] at HL;have hq:q.length<(r.take 8).length:=vW hres;rw [aO] at hq;have HE:=zH (OY (z:=0) (show iZ.get r= .ok x (r.drop (min 8 r.length-q.length)) from HL));obtain ⟨p,hp⟩:∃ p,p=min 8 r.length-q.length:=⟨_,rfl⟩;rw [<-hp] at HE;have hp0:0<p:=by omega
   have hpr:p<=r.length:=by omega
   have HQ:=zH hq;have HP:=zH hp;clear hx hs hh HL hq hp;go_enter func321,ntmps321
   go_wp2_with fail
   refine KF.mono ?_;rintro e w1 ⟨a1,k1,Vj,hk1,rfl,hs1,hb⟩;have KR:=By.uM hs1 hlr;rw [hres] at KR;have HB:=zH hb;have uo:=zH (HX.o.below hb);have NY:=zH hk1;clear hs1 hb KF hres c0 c1 f0 f1 hk1;go_upto_region 6 with (go_at_fn 41;refine KR.mono ?_;rintro e w2 ⟨v2,rfl,ho2,hb2⟩)
   have HB2:=zH (HB.o.trans (hb2.mono HB.o.size));have NZ:=zH (uo.o.below hb2);obtain ⟨a3,c3,rfl,-,-,-,-⟩:=ho2.parts;clear ho2 hb2 KR;obtain ⟨a2,n2,c2,hn2,g1,g2,g0,hh2,hs2,hl2⟩:=NZ.o.parts;have HL2:=zH hl2;obtain ⟨d0,d1,f0,f1⟩:=mQ hh2;have hn3:n2=r.length:=hn2;subst hn3;have hs3:=hs2;obtain ⟨b2,o2,c2',hv,-,-,-,-⟩:=hs3.spot (by omega);simp only [aC] at hv
   obtain ⟨rfl,-,rfl⟩:=hv;have hd:=hs2.from p hpr;have mP:=zH hh2;have HD:=zH hd;have HG2:=zH (But.of HB2.o (aT HG.o));have e2:(k1:Int)-(q.length:Int)=(p:Int):=by have:=NY.o;have:=HP.o;have:=HQ.o;have h5:k1=min 8 r.length:=NY.o;omega
   have e3:IntKind.i64.wrap ((k1:Int)-(q.length:Int))=(p:Int):=by rw [e2];simp [IntKind.wrap,IntKind.bits,IntKind.signed];omega
   have tT:Hid ((r.drop p).length=r.length-p):=zH bB;clear hh2 hs2 hs3 hd hn2 g0 e2;generalize q.length=ql at*;have p1:(p:Int)<=(r.length:Int):=by omega
   have p2:(r.length:Int)<=(c2:Int):=by omega
   have p3:(p:Int)<=(c2:Int):=by omega
   have p4:(0:Int)<=(p:Int):=by omega
   by_cases hcp:c2=p
   ·rw [if_pos hcp] at HD
    subst hcp;have hpl:r.length=c2:=by omega
    rw [hpl,cu] at HD;rw [hpl,cu] at tT;have HPL:=zH hpl;generalize r.length=n at*;subst hpl;go_wp2_with fail
    go_ret
    rw [HE.o];refine ⟨_,rfl,rfl,?_,HG2.o.trans (But.set _ _ _ _)⟩;have HR:=qU (r:=r.drop n) (c':=0) mP.o (by rw [tT.o];exact HD.o) (fun _ ad he=>by cases he;exact HL2.o (by first|omega|(show 0<r.length;omega)) ⟨b2,o2,none⟩ rfl);rw [tT.o] at HR;exact HR
   ·rw [if_neg hcp] at HD
    go_wp2_with fail
    go_ret
    rw [HE.o];refine ⟨_,rfl,rfl,?_,HG2.o.trans (But.set _ _ _ _)⟩;have HR:=qU (r:=r.drop p) (c':=c2-p) mP.o (by rw [tT.o];exact HD.o) (fun _ ad he=>by cases he;exact HL2.o (by first|omega|(show 0<r.length;omega)) ⟨b2,o2,none⟩ rfl);rw [tT.o] at HR;exact HR
 ·have e1:(k !=0)=true:=bne_iff_ne.2 hk
  have HE:=zH (zC (c:=iZ) (z:=0) (b:=r) hk);clear hx hs hh;go_enter func321,ntmps321
  go_wp2_with fail
  go_ret
  rw [HE.o];exact ⟨_,rfl,rfl,HX.o,But.refl _ _⟩
theorem aao{w:World}{g:Nat}{s:Rd}(hx:jB w g s)(hl:s.1.length<=100000):Calls prog 340 #[.pointer (some ⟨g,0,none⟩),.int .i64 8,.func (.func 285) #[] #[]] w (pq vI w g (zA qz 0 s)):=by
 obtain ⟨r,k⟩:=s;obtain ⟨a0,n0,cc,hn0,h1,h2,h0,hh,hs,-⟩:=hx.parts;obtain ⟨c0,c1,f0,f1⟩:=mQ hh;have HX:=zH hx
 by_cases hk:k=0
 ·subst hk
  have KF:=xK hx 8 (by decide);have HL:qz.get r=uf 8 r (qz.get (r.take 8)):=Lx r;have eg:∀ args w,(callFunc 285 args).run prog w= .ok (.enter 285 args) w:=enters_of func285 (by kernel_rfl) rfl;have HG:=zH hx.lt;have e0:((0:Int) !=0)=false:=by decide
  have hlr:(r.take 8).length<=1000000000:=by
   have:=bM 8 r;have h3:r.length<=100000:=hl;have h4:=dK 8 r;omega
  cases hres:qz.get (r.take 8) with
  |err j=>
   have hj:j≠0:=qz.bad hres;rw [hres] at HL;have HE:=zH (Df (z:=0) HL);have e1:(j !=0)=true:=bne_iff_ne.2 hj;clear hx hs hh HL;go_enter func340,ntmps340
   go_wp2_with fail
   refine KF.mono ?_;rintro e w1 ⟨a1,k1,Vj,-,rfl,hs1,hb⟩;have KR:=By.Gl hs1 hlr;rw [hres] at KR;have HB:=zH hb;have uo:=zH (HX.o.below hb);clear hs1 hb KF hres c0 c1 f0 f1;go_upto_region 6 with (go_at_fn 285;refine KR.mono ?_;rintro e w2 ⟨rfl,rfl⟩)
   obtain ⟨a2,n2,c2,hn2,-,-,-,hh2,hs2,hl2⟩:=uo.o.parts;have HL2:=zH hl2;obtain ⟨d0,d1,f0,f1⟩:=mQ hh2;have mP:=zH hh2;have ze:=zH hs2;have HN:=zH hn2;clear hh2 hs2 hn2 KR;go_wp2_with fail
   go_ret
   rw [HE.o];have hn3:n2=r.length:=HN.o;subst hn3;exact ⟨_,rfl,rfl,Am mP.o ze.o HL2.o,(But.of HB.o (aT HG.o)).trans (But.set _ _ _ _)⟩
  |ok x q=>
   rw [hres] at HL;have hq:q.length<(r.take 8).length:=zZ hres;rw [aO] at hq;have HE:=zH (OY (z:=0) (show qz.get r= .ok x (r.drop (min 8 r.length-q.length)) from HL));obtain ⟨p,hp⟩:∃ p,p=min 8 r.length-q.length:=⟨_,rfl⟩;rw [<-hp] at HE;have hp0:0<p:=by omega
   have hpr:p<=r.length:=by omega
   have HQ:=zH hq;have HP:=zH hp;clear hx hs hh HL hq hp;go_enter func340,ntmps340
   go_wp2_with fail
   refine KF.mono ?_;rintro e w1 ⟨a1,k1,Vj,hk1,rfl,hs1,hb⟩;have KR:=By.Gl hs1 hlr;rw [hres] at KR;have HB:=zH hb;have uo:=zH (HX.o.below hb);have NY:=zH hk1;clear hs1 hb KF hres c0 c1 f0 f1 hk1;go_upto_region 6 with (go_at_fn 285;refine KR.mono ?_;rintro e w2 ⟨v2,rfl,ho2,hb2⟩)
   have HB2:=zH (HB.o.trans (hb2.mono HB.o.size));have NZ:=zH (uo.o.below hb2);obtain ⟨a3,c3,rfl,-,-,-,-⟩:=ho2.parts;clear ho2 hb2 KR;obtain ⟨a2,n2,c2,hn2,g1,g2,g0,hh2,hs2,hl2⟩:=NZ.o.parts;have HL2:=zH hl2;obtain ⟨d0,d1,f0,f1⟩:=mQ hh2;have hn3:n2=r.length:=hn2;subst hn3;have hs3:=hs2;obtain ⟨b2,o2,c2',hv,-,-,-,-⟩:=hs3.spot (by omega);simp only [aC] at hv
   obtain ⟨rfl,-,rfl⟩:=hv;have hd:=hs2.from p hpr;have mP:=zH hh2;have HD:=zH hd;have HG2:=zH (But.of HB2.o (aT HG.o));have e2:(k1:Int)-(q.length:Int)=(p:Int):=by have:=NY.o;have:=HP.o;have:=HQ.o;have h5:k1=min 8 r.length:=NY.o;omega
   have e3:IntKind.i64.wrap ((k1:Int)-(q.length:Int))=(p:Int):=by rw [e2];simp [IntKind.wrap,IntKind.bits,IntKind.signed];omega
   have tT:Hid ((r.drop p).length=r.length-p):=zH bB;clear hh2 hs2 hs3 hd hn2 g0 e2;generalize q.length=ql at*;have p1:(p:Int)<=(r.length:Int):=by omega
   have p2:(r.length:Int)<=(c2:Int):=by omega
   have p3:(p:Int)<=(c2:Int):=by omega
   have p4:(0:Int)<=(p:Int):=by omega
   by_cases hcp:c2=p
   ·rw [if_pos hcp] at HD
    subst hcp;have hpl:r.length=c2:=by omega
    rw [hpl,cu] at HD;rw [hpl,cu] at tT;have HPL:=zH hpl;generalize r.length=n at*;subst hpl;go_wp2_with fail
    go_ret
    rw [HE.o];refine ⟨_,rfl,rfl,?_,HG2.o.trans (But.set _ _ _ _)⟩;have HR:=qU (r:=r.drop n) (c':=0) mP.o (by rw [tT.o];exact HD.o) (fun _ ad he=>by cases he;exact HL2.o (by first|omega|(show 0<r.length;omega)) ⟨b2,o2,none⟩ rfl);rw [tT.o] at HR;exact HR
   ·rw [if_neg hcp] at HD
    go_wp2_with fail
    go_ret
    rw [HE.o];refine ⟨_,rfl,rfl,?_,HG2.o.trans (But.set _ _ _ _)⟩;have HR:=qU (r:=r.drop p) (c':=c2-p) mP.o (by rw [tT.o];exact HD.o) (fun _ ad he=>by cases he;exact HL2.o (by first|omega|(show 0<r.length;omega)) ⟨b2,o2,none⟩ rfl);rw [tT.o] at HR;exact HR
 ·have e1:(k !=0)=true:=bne_iff_ne.2 hk
  have HE:=zH (zC (c:=qz) (z:=0) (b:=r) hk);clear hx hs hh;go_enter func340,ntmps340
  go_wp2_with fail
  go_ret
  rw [HE.o];exact ⟨_,rfl,rfl,HX.o,But.refl _ _⟩
theorem V5{w:World}{g:Nat}{s:Rd}(hx:jB w g s)(hl:s.1.length<=100000)(M:Nat)(hM:M=sI s.1)(hm:M<=100000000000000000):Calls prog 339 #[.pointer (some ⟨g,0,none⟩),.int .i64 M,.func (.func 283) #[] #[]] w (pq vT w g (zA iQ [] s)):=by
 obtain ⟨r,k⟩:=s;obtain ⟨a0,n0,cc,hn0,h1,h2,h0,hh,hs,-⟩:=hx.parts;obtain ⟨c0,c1,f0,f1⟩:=mQ hh;have HX:=zH hx
 by_cases hk:k=0
 ·subst hk
  have KF:=xK hx M hm;have HL:iQ.get r=uf M r (iQ.get (r.take M)):=hM▸Jc r;have eg:∀ args w,(callFunc 283 args).run prog w= .ok (.enter 283 args) w:=enters_of func283 (by kernel_rfl) rfl;have HG:=zH hx.lt;have e0:((0:Int) !=0)=false:=by decide
  have hlr:(r.take M).length<=1000000000:=by
   have:=bM M r;have h3:r.length<=100000:=hl;have h4:=dK M r;omega
  cases hres:iQ.get (r.take M) with
  |err j=>
   have hj:j≠0:=iQ.bad hres;rw [hres] at HL;have HE:=zH (Df (z:=[]) HL);have e1:(j !=0)=true:=bne_iff_ne.2 hj;clear hx hs hh HL hM hm;go_enter func339,ntmps339
   go_wp2_with fail
   refine KF.mono ?_;rintro e w1 ⟨a1,k1,Vj,-,rfl,hs1,hb⟩;have KR:=By.Cq hs1 hlr;rw [hres] at KR;have HB:=zH hb;have uo:=zH (HX.o.below hb);clear hs1 hb KF hres c0 c1 f0 f1;go_upto_region 6 with (go_at_fn 283;refine KR.mono ?_;rintro e w2 ⟨rfl,rfl⟩)
   obtain ⟨a2,n2,c2,hn2,-,-,-,hh2,hs2,hl2⟩:=uo.o.parts;have HL2:=zH hl2;obtain ⟨d0,d1,f0,f1⟩:=mQ hh2;have mP:=zH hh2;have ze:=zH hs2;have HN:=zH hn2;clear hh2 hs2 hn2 KR;go_wp2_with fail
   go_ret
   rw [HE.o];have hn3:n2=r.length:=HN.o;subst hn3;exact ⟨_,rfl,rfl,Am mP.o ze.o HL2.o,(But.of HB.o (aT HG.o)).trans (But.set _ _ _ _)⟩
  |ok x q=>
   rw [hres] at HL;have hq:q.length<(r.take M).length:=xu hres;rw [aO] at hq;have HE:=zH (OY (z:=[]) (show iQ.get r= .ok x (r.drop (min M r.length-q.length)) from HL));obtain ⟨p,hp⟩:∃ p,p=min M r.length-q.length:=⟨_,rfl⟩;rw [<-hp] at HE;have hp0:0<p:=by omega
   have hpr:p<=r.length:=by omega
   have HQ:=zH hq;have HP:=zH hp;clear hx hs hh HL hq hp hM hm;go_enter func339,ntmps339
   go_wp2_with fail
   refine KF.mono ?_;rintro e w1 ⟨a1,k1,Vj,hk1,rfl,hs1,hb⟩;have KR:=By.Cq hs1 hlr;rw [hres] at KR;have HB:=zH hb;have uo:=zH (HX.o.below hb);have NY:=zH hk1;clear hs1 hb KF hres c0 c1 f0 f1 hk1;go_upto_region 6 with (go_at_fn 283;refine KR.mono ?_;rintro e w2 ⟨v2,rfl,ho2,hb2⟩)
   have HB2:=zH (HB.o.trans (hb2.mono HB.o.size));have NZ:=zH (uo.o.below hb2);obtain ⟨a3,c3,rfl,-,-,-,-⟩:=ho2.parts;clear ho2 hb2 KR;obtain ⟨a2,n2,c2,hn2,g1,g2,g0,hh2,hs2,hl2⟩:=NZ.o.parts;have HL2:=zH hl2;obtain ⟨d0,d1,f0,f1⟩:=mQ hh2;have hn3:n2=r.length:=hn2;subst hn3;have hs3:=hs2;obtain ⟨b2,o2,c2',hv,-,-,-,-⟩:=hs3.spot (by omega);simp only [aC] at hv
   obtain ⟨rfl,-,rfl⟩:=hv;have hd:=hs2.from p hpr;have mP:=zH hh2;have HD:=zH hd;have HG2:=zH (But.of HB2.o (aT HG.o));have e2:(k1:Int)-(q.length:Int)=(p:Int):=by have:=NY.o;have:=HP.o;have:=HQ.o;have h5:k1=min M r.length:=NY.o;omega
   have e3:IntKind.i64.wrap ((k1:Int)-(q.length:Int))=(p:Int):=by rw [e2];simp [IntKind.wrap,IntKind.bits,IntKind.signed];omega
   have tT:Hid ((r.drop p).length=r.length-p):=zH bB;clear hh2 hs2 hs3 hd hn2 g0 e2;generalize q.length=ql at*;have p1:(p:Int)<=(r.length:Int):=by omega
   have p2:(r.length:Int)<=(c2:Int):=by omega
   have p3:(p:Int)<=(c2:Int):=by omega
   have p4:(0:Int)<=(p:Int):=by omega
   by_cases hcp:c2=p
   ·rw [if_pos hcp] at HD
    subst hcp;have hpl:r.length=c2:=by omega
    rw [hpl,cu] at HD;rw [hpl,cu] at tT;have HPL:=zH hpl;generalize r.length=n at*;subst hpl;go_wp2_with fail
    go_ret
    rw [HE.o];refine ⟨_,rfl,rfl,?_,HG2.o.trans (But.set _ _ _ _)⟩;have HR:=qU (r:=r.drop n) (c':=0) mP.o (by rw [tT.o];exact HD.o) (fun _ ad he=>by cases he;exact HL2.o (by first|omega|(show 0<r.length;omega)) ⟨b2,o2,none⟩ rfl);rw [tT.o] at HR;exact HR
   ·rw [if_neg hcp] at HD
    go_wp2_with fail
    go_ret
    rw [HE.o];refine ⟨_,rfl,rfl,?_,HG2.o.trans (But.set _ _ _ _)⟩;have HR:=qU (r:=r.drop p) (c':=c2-p) mP.o (by rw [tT.o];exact HD.o) (fun _ ad he=>by cases he;exact HL2.o (by first|omega|(show 0<r.length;omega)) ⟨b2,o2,none⟩ rfl);rw [tT.o] at HR;exact HR
 ·have e1:(k !=0)=true:=bne_iff_ne.2 hk
  have HE:=zH (zC (c:=iQ) (z:=[]) (b:=r) hk);clear hx hs hh hM hm;go_enter func339,ntmps339
  go_wp2_with fail
  go_ret
  rw [HE.o];exact ⟨_,rfl,rfl,HX.o,But.refl _ _⟩
theorem qm{w:World}{g:Nat}{s:Rd}(hx:jB w g s)(hl:s.1.length<=100000):Calls prog 314 #[.pointer (some ⟨g,0,none⟩)] w (pq vI w g (iN s)):=by
 have K:=zH (aan hx hl);have HR:Hid (iN s=(((zA iZ 0 s).1:Int),(zA iZ 0 s).2)):=zH rfl;clear hx hl;generalize iN s=p at*;generalize zA iZ 0 s=q at*;go_enter func314,ntmps314
 go_wp2_with fail
 refine K.o.mono ?_;rintro e w1 ⟨v,rfl,hv,hx,hb⟩;obtain rfl:v= .int .i64 q.1:=hv;have HX:=zH hx;have HB:=zH hb;clear hx hb K;go_wp2_with fail
 go_ret
 rw [HR.o];exact ⟨_,rfl,rfl,HX.o,HB.o⟩
theorem rint_any{w:World}{g:Nat}{s:Rd}(hx:jB w g s)(hl:s.1.length<=100000):Calls prog 334 #[.pointer (some ⟨g,0,none⟩)] w (pq vI w g (Ki s)):=by
 have K:=zH (aao hx hl);have HR:Hid (Ki s=zA qz 0 s):=zH rfl;clear hx hl;generalize Ki s=p at*;generalize zA qz 0 s=q at*;go_enter func334,ntmps334
 go_wp2_with fail
 refine K.o.mono ?_;rintro e w1 ⟨v,rfl,hv,hx,hb⟩;obtain rfl:v= .int .i64 q.1:=hv;have HX:=zH hx;have HB:=zH hb;clear hx hb K;go_wp2_with fail
 go_ret
 rw [HR.o];exact ⟨_,rfl,rfl,HX.o,HB.o⟩
theorem Rv(b:Bytes):sI b<=100000000000000000:=by
 unfold sI
 cases e:jh (b.take 8) with
 |ok n r=>
  have:=(iZ.bwd (show iZ.get _=_ from e)).1;change n<72057594037927936 at this
  show 8+n<=_
  omega
 |err j=>show 8+0<=_;omega
theorem Et{w:World}{g:Nat}{s:Rd}(hx:jB w g s)(hl:s.1.length<=100000):Calls prog 333 #[.pointer (some ⟨g,0,none⟩)] w (pq vT w g (jK s)):=by
 have HG:=zH hx.lt;have KF:=xK hx 8 (by decide);have HT:Hid (sI s.1=8+(match jh (s.1.take 8) with| .ok n _=>n| .err _=>0)):=zH rfl;have HM:=zH (Rv s.1);have HR:Hid (jK s=zA iQ [] s):=zH rfl;have HX:=zH hx;have hlr:(s.1.take 8).length<=1000000000:=by rw [aO];omega
 have KT:Hid (∀ W,jB W g s ->∀ M:Nat,M=sI s.1 ->M<=100000000000000000 ->Calls prog 339 #[.pointer (some ⟨g,0,none⟩),.int .i64 M,.func (.func 283) #[] #[]] W (pq vT W g (zA iQ [] s))):=zH (fun W h M h1 h2=>V5 h hl M h1 h2);clear hx hl;generalize jK s=p at*;generalize zA iQ [] s=q at*;go_enter func333,ntmps333
 go_wp2_with fail
 refine KF.mono ?_;rintro e w1 ⟨a1,k1,Vj,-,rfl,hs1,hb⟩;have KN:=By.uM hs1 hlr;change Calls _ _ _ _ (By.NA (fun n:Nat=> .int .i64 n) (.int .i64 0) w1 (jh (s.1.take 8))) at KN;have HB:=zH hb;have uo:=zH (HX.o.below hb);clear hs1 hb KF HX
 cases hres:jh (s.1.take 8) with
 |err j=>
  rw [hres] at KN HT;obtain ⟨M,hM⟩:∃ M,M=8:=⟨_,rfl⟩;have KK:=KT.o w1 uo.o 8 (by rw [HT.o];rfl) (by decide);clear uo HT hM hres;go_wp2_with fail
  refine KN.mono ?_;rintro e w2 ⟨rfl,rfl⟩;go_wp2_with fail
  refine KK.mono ?_;rintro e w2 ⟨v,rfl,hv,hx,hb⟩;obtain rfl:v= .string (bt q.1):=hv;have NZ:=zH hx;have HB2:=zH ((But.of HB.o (aT HG.o)).trans hb);clear hx hb KK;go_wp2_with fail
  go_ret
  rw [HR.o];exact ⟨_,rfl,rfl,NZ.o,HB2.o⟩
 |ok n r=>
  rw [hres] at KN HT;obtain ⟨M,hM⟩:∃ M,M=8+n:=⟨_,rfl⟩;have hM2:M<=100000000000000000:=by have:=HM.o;rw [HT.o] at this;change 8+n<=_ at this;omega
  have HKK:Hid (∀ W,jB W g s ->Calls prog 339 #[.pointer (some ⟨g,0,none⟩),.int .i64 M,.func (.func 283) #[] #[]] W (pq vT W g q)):=zH (fun W h=>KT.o W h M (by rw [HT.o];exact hM) hM2);have e2:(8:Int)+(n:Int)=(M:Int):=by omega
  have e3:IntKind.i64.wrap ((8:Int)+(n:Int))=(M:Int):=by rw [e2];simp [IntKind.wrap,IntKind.bits,IntKind.signed];omega
  clear HT hM hres hM2 e2;go_wp2_with fail
  refine KN.mono ?_;rintro e w2 ⟨v2,rfl,ho2,hb2⟩;have NZ:=zH (uo.o.below hb2);have HB2:=zH (HB.o.trans (hb2.mono HB.o.size));have KK:=HKK.o w2 NZ.o;clear ho2 hb2 KN;go_wp2_with fail
  refine KK.mono ?_;rintro e w3 ⟨v,rfl,hv,hx,hb⟩;obtain rfl:v= .string (bt q.1):=hv;have HX3:=zH hx;have HB3:=zH ((But.of HB2.o (aT HG.o)).trans hb);clear hx hb KK;go_wp2_with fail
  go_ret
  rw [HR.o];exact ⟨_,rfl,rfl,HX3.o,HB3.o⟩
theorem Bu{w:World}{g:Nat}{s:Rd}(hx:jB w g s)(hl:s.1.length<=100000)(k:Nat):Calls prog 322 #[.pointer (some ⟨g,0,none⟩),.int .i64 k] w (pq vN w g (jU k s)):=by
 have K:=zH (qm hx hl);have H1:Hid (k<(zA iZ 0 s).1 ->jU k s=(0,((zA iZ 0 s).2.1,2))):=zH (fun h=>by unfold jU;rw [if_pos h]);have H2:Hid (¬ k<(zA iZ 0 s).1 ->jU k s=zA iZ 0 s):=zH (fun h=>by unfold jU;rw [if_neg h]);change Hid (Calls _ _ _ _ (pq vI w g (((zA iZ 0 s).1:Int),(zA iZ 0 s).2))) at K;clear hx hl;generalize jU k s=p at*;generalize zA iZ 0 s=q at*;obtain ⟨n,b,j⟩:=q;go_enter func322,ntmps322
 go_wp2_with fail
 refine K.o.mono ?_;rintro e w1 ⟨v,rfl,hv,hx,hb⟩;obtain rfl:v= .int .i64 n:=hv;have HX:=zH hx;have HB:=zH hb;clear hb K
 by_cases hk:k<n
 ·obtain rfl:=H1.o hk
  obtain ⟨a2,n2,c2,hn2,-,-,-,hh2,hs2,hl2⟩:=hx.parts;have HL2:=zH hl2;obtain ⟨d0,d1,f0,f1⟩:=mQ hh2;have hk':(k:Int)<(n:Int):=by omega
  have mP:=zH hh2;have ze:=zH hs2;have HN:=zH hn2;clear hx hh2 hs2 hn2 H1 H2;go_wp2_with fail
  go_ret
  have hn3:n2=b.length:=HN.o;subst hn3;exact ⟨_,rfl,rfl,Am mP.o ze.o HL2.o,HB.o.trans (But.set _ _ _ _)⟩
 ·obtain rfl:=H2.o hk
  have hk':¬ (k:Int)<(n:Int):=by omega
  clear hx H1 H2;go_wp2_with fail
  go_ret
  exact ⟨_,rfl,rfl,HX.o,HB.o⟩
def vO{α:Type}(L:El α)(B:Nat)(W:World)(v:Value)(l:List α):Prop:=gy L B W v l
def vJ{α:Type}(L:El α)(B:Nat)(W:World)(v:Value)(l:List α):Prop:=iO (fun b=>B<=b) L B W v l
theorem aap{w:World}{g:Nat}{s:Rd}(hx:jB w g s)(hl:s.1.length<=100000):Calls prog 315 #[.pointer (some ⟨g,0,none⟩)] w (pq (vO gL w.heap.size) w g (mF iN 8 s)):=by
 have HG:=zH hx.lt;have K0:=zH (Bu hx hl 8);have HC:=zH (Er 8 s);have HT0:=zH (ak (Al 8 s) hl);have HR:Hid (mF iN 8 s=rN iN (jU 8 s).1 (jU 8 s).2):=zH rfl;clear hx hl;generalize mF iN 8 s=res at*;generalize jU 8 s=q0 at*;obtain ⟨n,s0⟩:=q0;obtain ⟨F,hF⟩:∃ F:Nat ->List Int×Rd,F=fun k=>rN iN k s0:=⟨_,rfl⟩
 have P0:Hid (F 0=([],s0)):=zH (by rw [hF];rfl);have PS:Hid (∀ k,F (k+1)=((F k).1++[(iN (F k).2).1],(iN (F k).2).2)):=zH (fun k=>by rw [hF];exact Gu iN k s0);have PL:Hid (∀ k,(F k).1.length=k):=zH (fun k=>by rw [hF];exact Pb iN k s0);have PT:Hid (∀ k,(F k).2.1.length<=100000):=zH (fun k=>by rw [hF];exact ak (Tn lK k s0) HT0.o);have HF:Hid (res=F n):=zH (by rw [hF];exact HR.o);clear hF HR;go_enter func315,ntmps315
 go_wp2_with fail
 refine K0.o.mono ?_;rintro e w1 ⟨v,rfl,hv,hx1,hb1⟩;obtain rfl:v= .int .i64 n:=hv;have uo:=zH hx1;have HB1:=zH hb1;clear hx1 hb1 K0;go_wp2_with fail
 go_loopw [3,6] (fun z i wr=>∃ k:Nat,k<=n/\i= .int .i64 k/\gy gL w.heap.size wr z (F k).1/\jB wr g (F k).2/\But g w wr) (fun _ i _=>n-(intOf i).toNat)
 case atStart=>exact ⟨0,aL _,rfl,by rw [P0.o];exact gy.nil _ _,by rw [P0.o];exact uo.o,HB1.o⟩
 case round=>
  obtain ⟨k,hk,rfl,ho,hx,hb⟩:=hrel;have HO:=zH ho;have HX:=zH hx;have HB:=zH hb;clear ho hx hb
  by_cases hlt:k<n
  ·have PK:=zH (PS.o k)
   have LK:=zH (PL.o k);have TK:=zH (PT.o k);have hn64:n<=64:=ak HC.o (by decide);have KN:=zH (qm HX.o TK.o);generalize iN (F k).2=q at*;go_wp2_with fail
   refine KN.o.mono ?_;rintro e w2 ⟨v,rfl,hv,hx2,hb2⟩;obtain rfl:v= .int .i64 q.1:=hv;have O2:=zH (HO.o.but gU hb2 HG.o);have G2:=zH (HB.o.trans hb2);have X2:=zH hx2;have S1:=zH (one_int w2 q.1);clear hx2 hb2 KN;go_wp2_with (at_builtin;refine gT gL rfl (.tmp 8) (.tmp 11) rfl w.heap.size rfl (O2.o.alloc _) rfl S1.o (fun _ _ h=>h) (by rw [LK.o];simp;omega) (by have:=G2.o.size;simp;omega) ?_)
   intro v' w5 ho' hgr _;have O5:=zH ho';have G5:=zH ((G2.o.alloc HG.o _).grown hgr HG.o (fun j hj=>(O2.o.lt j hj).1));have X5:=zH ((X2.o.below ((aj _ _).alloc (ah _) _)).grown hgr (fun j hj=>ay HG.o (O2.o.lt j hj).1));clear ho' hgr;go_wp2_with fail
   go_roundw
   case rel=>exact ⟨k+1,by omega,by go_num,by rw [PK.o];exact O5.o,by rw [PK.o];exact X5.o,G5.o⟩
   case measure=>simp [intOf]<;>omega
  ·obtain rfl:k=n:=by omega
   go_wp2_with fail
   go_ret
   rw [HF.o];exact ⟨_,rfl,HO.o,HX.o,HB.o⟩
theorem V8{w:World}{g:Nat}{s:Rd}(hx:jB w g s)(hl:s.1.length<=100000):Calls prog 335 #[.pointer (some ⟨g,0,none⟩)] w (pq (vO jI w.heap.size) w g (mF Ar 64 s)):=by
 have HG:=zH hx.lt;have K0:=zH (Bu hx hl 64);have HC:=zH (Er 64 s);have HT0:=zH (ak (Al 64 s) hl);have HR:Hid (mF Ar 64 s=rN Ar (jU 64 s).1 (jU 64 s).2):=zH rfl;clear hx hl;generalize mF Ar 64 s=res at*;generalize jU 64 s=q0 at*;obtain ⟨n,s0⟩:=q0;obtain ⟨F,hF⟩:∃ F:Nat ->List gB×Rd,F=fun k=>rN Ar k s0:=⟨_,rfl⟩
 have P0:Hid (F 0=([],s0)):=zH (by rw [hF];rfl);have PS:Hid (∀ k,F (k+1)=((F k).1++[(Ar (F k).2).1],(Ar (F k).2).2)):=zH (fun k=>by rw [hF];exact Gu Ar k s0);have PL:Hid (∀ k,(F k).1.length=k):=zH (fun k=>by rw [hF];exact Pb Ar k s0);have PT:Hid (∀ k,(F k).2.1.length<=100000):=zH (fun k=>by rw [hF];exact ak (Tn Xg k s0) HT0.o);have HF:Hid (res=F n):=zH (by rw [hF];exact HR.o);clear hF HR;go_enter func335,ntmps335
 go_wp2_with fail
 refine K0.o.mono ?_;rintro e w1 ⟨v,rfl,hv,hx1,hb1⟩;obtain rfl:v= .int .i64 n:=hv;have uo:=zH hx1;have HB1:=zH hb1;clear hx1 hb1 K0;go_wp2_with fail
 go_loopw [3,6] (fun z i wr=>∃ k:Nat,k<=n/\i= .int .i64 k/\gy jI w.heap.size wr z (F k).1/\jB wr g (F k).2/\But g w wr) (fun _ i _=>n-(intOf i).toNat)
 case atStart=>exact ⟨0,aL _,rfl,by rw [P0.o];exact gy.nil _ _,by rw [P0.o];exact uo.o,HB1.o⟩
 case round=>
  obtain ⟨k,hk,rfl,ho,hx,hb⟩:=hrel;have HO:=zH ho;have HX:=zH hx;have HB:=zH hb;clear ho hx hb
  by_cases hlt:k<n
  ·have PK:=zH (PS.o k)
   have LK:=zH (PL.o k);have TK:=zH (PT.o k);have hn64:n<=64:=ak HC.o (by decide);have PK2:Hid (F (k+1)=((F k).1++[⟨(iN (F k).2).1,(iN (iN (F k).2).2).1,(iN (iN (iN (F k).2).2).2).1⟩],(iN (iN (iN (F k).2).2).2).2)):=zH PK.o;replace PK:=PK2;clear PK2;have KN:=zH (qm HX.o TK.o);have TK1:=zH (ak (lK (F k).2) TK.o);have TK2:=zH (ak (lK (iN (F k).2).2) TK1.o);generalize iN (F k).2=q1 at*;go_wp2_with fail
   refine KN.o.mono ?_;rintro e wa ⟨v,rfl,hv,hx2,hb2⟩;obtain rfl:v= .int .i64 q1.1:=hv;have Oa:=zH (HO.o.but pX hb2 HG.o);have Ga:=zH (HB.o.trans hb2);have Ka:=zH (qm hx2 TK1.o);clear hx2 hb2 KN;generalize iN q1.2=q2 at*;go_wp2_with fail
   refine Ka.o.mono ?_;rintro e wb ⟨v,rfl,hv,hx2,hb2⟩;obtain rfl:v= .int .i64 q2.1:=hv;have Ob:=zH (Oa.o.but pX hb2 HG.o);have Gb:=zH (Ga.o.trans hb2);have Kb:=zH (qm hx2 TK2.o);clear hx2 hb2 Ka;generalize iN q2.2=q3 at*;go_wp2_with fail
   refine Kb.o.mono ?_;rintro e w2 ⟨v,rfl,hv,hx2,hb2⟩;obtain rfl:v= .int .i64 q3.1:=hv;have O2:=zH (Ob.o.but pX hb2 HG.o);have G2:=zH (Gb.o.trans hb2);have X2:=zH hx2;have S1:=zH (one_dotR w2 ⟨q1.1,q2.1,q3.1⟩);clear hx2 hb2 Kb;go_wp2_with (at_builtin;refine gT jI rfl (.tmp 8) (.tmp 16) rfl w.heap.size rfl (O2.o.alloc _) rfl S1.o (fun _ _ h=>h) (by rw [LK.o];simp;omega) (by have:=G2.o.size;simp;omega) ?_)
   intro v' w5 ho' hgr _;have O5:=zH ho';have G5:=zH ((G2.o.alloc HG.o _).grown hgr HG.o (fun j hj=>(O2.o.lt j hj).1));have X5:=zH ((X2.o.below ((aj _ _).alloc (ah _) _)).grown hgr (fun j hj=>ay HG.o (O2.o.lt j hj).1));clear ho' hgr;go_wp2_with fail
   go_roundw
   case rel=>exact ⟨k+1,by omega,by go_num,by rw [PK.o];exact O5.o,by rw [PK.o];exact X5.o,G5.o⟩
   case measure=>simp [intOf]<;>omega
  ·obtain rfl:k=n:=by omega
   go_wp2_with fail
   go_ret
   rw [HF.o];exact ⟨_,rfl,HO.o,HX.o,HB.o⟩
def ts7(w:World)(g:Nat)(v0 v1 v2 v3 v4 v5 v6:Value):World:=((((((w.setCell ⟨g,0,none⟩ v0).setCell ⟨g,1,none⟩ v1).setCell ⟨g,2,none⟩ v2).setCell ⟨g,3,none⟩ v3).setCell ⟨g,4,none⟩ v4).setCell ⟨g,5,none⟩ v5).setCell ⟨g,6,none⟩ v6
theorem Xi{u:World}{g:Nat}{v0 v1 v2 v3 v4 v5 v6:Value}{t:TypeId}(h:u.heap[g]? =some (.cells #[v0,v1,v2,v3,v4,v5,v6] t (0,0))):
  (u.cell? ⟨g,0,none⟩=some v0/\u.cell? ⟨g,1,none⟩=some v1/\u.cell? ⟨g,2,none⟩=some v2/\u.cell? ⟨g,3,none⟩=some v3/\u.cell? ⟨g,4,none⟩=some v4/\u.cell? ⟨g,5,none⟩=some v5/\u.cell? ⟨g,6,none⟩=some v6)/\
  u.frozen? ⟨g,0,none⟩=false/\u.frozen? ⟨g,1,none⟩=false/\u.frozen? ⟨g,2,none⟩=false/\u.frozen? ⟨g,3,none⟩=false/\u.frozen? ⟨g,4,none⟩=false/\u.frozen? ⟨g,5,none⟩=false/\u.frozen? ⟨g,6,none⟩=false:=by
 refine ⟨⟨?_,?_,?_,?_,?_,?_,?_⟩,?_,?_,?_,?_,?_,?_,?_⟩
 iterate 7 (· simp [World.cell?,h])
 iterate 7 (· unfold World.frozen?;rw [h];simp)
theorem aaq{w:World}{g:Nat}{z0 z1 z2 z3 z4 z5 z6 v0 v1 v2 v3 v4 v5 v6:Value}{t:TypeId}(h:w.heap[g]? =some (.cells #[z0,z1,z2,z3,z4,z5,z6] t (0,0))):(ts7 w g v0 v1 v2 v3 v4 v5 v6).heap[g]? =some (.cells #[v0,v1,v2,v3,v4,v5,v6] t (0,0)):=by
 unfold ts7;rw [aB _ g 6 _ _ _ (aB _ g 5 _ _ _ (aB _ g 4 _ _ _ (aB _ g 3 _ _ _ (aB _ g 2 _ _ _ (aB _ g 1 _ _ _ (aB _ g 0 _ _ _ h))))))]
 rfl
theorem ts7_but{w u:World}{g R:Nat}{v0 v1 v2 v3 v4 v5 v6:Value}(h:But g w u)(hw:g<w.heap.size)(hR:w.heap.size<=R):But g w (ts7 u R v0 v1 v2 v3 v4 v5 v6):=((((((h.store hw hR).store hw hR).store hw hR).store hw hR).store hw hR).store hw hR).store hw hR
theorem ts7_box{w:World}{g R:Nat}{s:Rd}{v0 v1 v2 v3 v4 v5 v6:Value}(h:jB w g s)(hR:g<R):jB (ts7 w R v0 v1 v2 v3 v4 v5 v6) g s:=((((((h.store hR).store hR).store hR).store hR).store hR).store hR).store hR
theorem ts7_bare(w:World)(R:Nat)(v0 v1 v2 v3 v4 v5 v6:Value):But R w (ts7 w R v0 v1 v2 v3 v4 v5 v6):=((((((But.set R w 0 v0).trans (But.set R _ 1 v1)).trans (But.set R _ 2 v2)).trans (But.set R _ 3 v3)).trans (But.set R _ 4 v4)).trans (But.set R _ 5 v5)).trans (But.set R _ 6 v6)
def vE(B:Nat)(W:World)(v:Value)(x:gD):Prop:=∃ a n c,v= .agg #[.int .i64 x.pos,.string (bt x.key),.string (bt x.field),.int .i64 x.kind,.string (bt x.elem),.int .i64 x.n,.slice a n c]/\gy jI B W (.slice a n c) x.drops
theorem reff_any{w:World}{g:Nat}{s:Rd}(hx:jB w g s)(hl:s.1.length<=100000):Calls prog 323 #[.pointer (some ⟨g,0,none⟩)] w (pq (vE w.heap.size) w g (wH s)):=by
 have HG:=zH hx.lt;have xA:Hid (w.heap.size≠g):=zH (by have:=hx.lt;omega);have HR:Hid (wH s=(⟨(iN s).1,(jK (iN s).2).1,(jK (jK (iN s).2).2).1,(iN (jK (jK (iN s).2).2).2).1,(jK (iN (jK (jK (iN s).2).2).2).2).1,(Ki (jK (iN (jK (jK (iN s).2).2).2).2).2).1,(mF Ar 64 (Ki (jK (iN (jK (jK (iN s).2).2).2).2).2).2).1⟩,(mF Ar 64 (Ki (jK (iN (jK (jK (iN s).2).2).2).2).2).2).2)):=zH rfl;have L1:=zH (ak (lK s) hl);have L2:=zH (ak (wI (iN s).2) L1.o);have L3:=zH (ak (wI (jK (iN s).2).2) L2.o);have L4:=zH (ak (lK (jK (jK (iN s).2).2).2) L3.o);have L5:=zH (ak (wI (iN (jK (jK (iN s).2).2).2).2) L4.o);have L6:=zH (ak (Xh (jK (iN (jK (jK (iN s).2).2).2).2).2) L5.o);generalize wH s=res at*;have hba:=zB w (.cells #[.int .i64 0,.string ⟨#[]⟩,.string ⟨#[]⟩,.int .i64 0,.string ⟨#[]⟩,.int .i64 0,.slice none 0 0] 85);have K0:=zH (qm (hx.below hba) hl);have R0:Hid ((w.alloc (.cells #[.int .i64 0,.string ⟨#[]⟩,.string ⟨#[]⟩,.int .i64 0,.string ⟨#[]⟩,.int .i64 0,.slice none 0 0] 85)).heap[w.heap.size]? =some (.cells #[.int .i64 0,.string ⟨#[]⟩,.string ⟨#[]⟩,.int .i64 0,.string ⟨#[]⟩,.int .i64 0,.slice none 0 0] 85 (0,0))):=zH (aM _ _);have Z0:Hid (w.heap.size<(w.alloc (.cells #[.int .i64 0,.string ⟨#[]⟩,.string ⟨#[]⟩,.int .i64 0,.string ⟨#[]⟩,.int .i64 0,.slice none 0 0] 85)).heap.size):=zH (by simp);have G0:Hid (But g w (w.alloc (.cells #[.int .i64 0,.string ⟨#[]⟩,.string ⟨#[]⟩,.int .i64 0,.string ⟨#[]⟩,.int .i64 0,.slice none 0 0] 85))):=zH (But.of hba (aT hx.lt));clear hx hl hba;go_enter func323,ntmps323
 go_upto_region 1 with fail
 generalize (w.alloc _)=w0 at*;generalize iN s=q1 at*;go_wp2_with fail
 refine K0.o.mono ?_;rintro e w1 ⟨v,rfl,hv,hx,hb⟩;obtain rfl:v= .int .i64 q1.1:=hv;have R1:=zH ((hb.block _ Z0.o xA.o).trans R0.o);have Z1:=zH (ay Z0.o hb.size);have G1:=zH (G0.o.trans hb);have K1:=zH (Et hx L1.o);generalize jK q1.2=q2 at*;clear hx hb K0;go_wp2_with fail
 refine K1.o.mono ?_;rintro e w2 ⟨v,rfl,hv,hx,hb⟩;obtain rfl:v= .string (bt q2.1):=hv;have R2:=zH ((hb.block _ Z1.o xA.o).trans R1.o);have Z2:=zH (ay Z1.o hb.size);have G2:=zH (G1.o.trans hb);have K2:=zH (Et hx L2.o);generalize jK q2.2=q3 at*;clear hx hb K1;go_wp2_with fail
 refine K2.o.mono ?_;rintro e w3 ⟨v,rfl,hv,hx,hb⟩;obtain rfl:v= .string (bt q3.1):=hv;have R3:=zH ((hb.block _ Z2.o xA.o).trans R2.o);have Z3:=zH (ay Z2.o hb.size);have G3:=zH (G2.o.trans hb);have K3:=zH (qm hx L3.o);generalize iN q3.2=q4 at*;clear hx hb K2;go_wp2_with fail
 refine K3.o.mono ?_;rintro e w4 ⟨v,rfl,hv,hx,hb⟩;obtain rfl:v= .int .i64 q4.1:=hv;have R4:=zH ((hb.block _ Z3.o xA.o).trans R3.o);have Z4:=zH (ay Z3.o hb.size);have G4:=zH (G3.o.trans hb);have K4:=zH (Et hx L4.o);generalize jK q4.2=q5 at*;clear hx hb K3;go_wp2_with fail
 refine K4.o.mono ?_;rintro e w5 ⟨v,rfl,hv,hx,hb⟩;obtain rfl:v= .string (bt q5.1):=hv;have R5:=zH ((hb.block _ Z4.o xA.o).trans R4.o);have Z5:=zH (ay Z4.o hb.size);have G5:=zH (G4.o.trans hb);have K5:=zH (rint_any hx L5.o);generalize Ki q5.2=q6 at*;clear hx hb K4;go_wp2_with fail
 refine K5.o.mono ?_;rintro e w6 ⟨v,rfl,hv,hx,hb⟩;obtain rfl:v= .int .i64 q6.1:=hv;have R6:=zH ((hb.block _ Z5.o xA.o).trans R5.o);have Z6:=zH (ay Z5.o hb.size);have G6:=zH (G5.o.trans hb);have K6:=zH (V8 hx L6.o);generalize mF Ar 64 q6.2=q7 at*;clear hx hb K5;go_wp2_with fail
 refine K6.o.mono ?_;rintro e w7 ⟨v,rfl,hd,hx,hb⟩;have R7:=zH ((hb.block _ Z6.o xA.o).trans R6.o);have G7:=zH (G6.o.trans hb);have X7:=zH hx;change gy jI w6.heap.size w7 v q7.1 at hd;obtain ⟨da,dc,rfl,-,-,hd',-⟩:=hd.parts;have D7:=zH hd';clear hx hb hd hd' K6;generalize q7.1.length=dn at*;obtain ⟨⟨y0,y1,y2,y3,y4,y5,y6⟩,f0,f1,f2,f3,f4,f5,f6⟩:=Xi R7.o;have FC:=zH (Xi (aaq (v0:= .int .i64 q1.1) (v1:= .string (bt q2.1)) (v2:= .string (bt q3.1)) (v3:= .int .i64 q4.1) (v4:= .string (bt q5.1)) (v5:= .int .i64 q6.1) (v6:= .slice da dn dc) R7.o)).1;have FG:=zH (ts7_but (v0:= .int .i64 q1.1) (v1:= .string (bt q2.1)) (v2:= .string (bt q3.1)) (v3:= .int .i64 q4.1) (v4:= .string (bt q5.1)) (v5:= .int .i64 q6.1) (v6:= .slice da dn dc) G7.o HG.o (ah _));have FX:=zH (ts7_box (v0:= .int .i64 q1.1) (v1:= .string (bt q2.1)) (v2:= .string (bt q3.1)) (v3:= .int .i64 q4.1) (v4:= .string (bt q5.1)) (v5:= .int .i64 q6.1) (v6:= .slice da dn dc) X7.o HG.o);have FD:=zH ((D7.o.but pX (ts7_bare w7 w.heap.size (.int .i64 q1.1) (.string (bt q2.1)) (.string (bt q3.1)) (.int .i64 q4.1) (.string (bt q5.1)) (.int .i64 q6.1) (.slice da dn dc)) Z6.o).mono (aT Z6.o));unfold ts7 at FC FG FX FD;go_wp2_with fail
 obtain ⟨g0,g1,g2,g3,g4,g5,g6⟩:=FC.o;refine bodyPost_ret (v:= .agg #[.int .i64 q1.1,.string (bt q2.1),.string (bt q3.1),.int .i64 q4.1,.string (bt q5.1),.int .i64 q6.1,.slice da dn dc]) (by simp [results,results323,go_sem,g0,g1,g2,g3,g4,g5,g6]) rfl ?_;rw [HR.o];exact ⟨_,rfl,⟨da,dn,dc,rfl,FD.o⟩,FX.o,FG.o⟩
theorem aar{w:World}{g:Nat}{s:Rd}(hx:jB w g s)(hl:s.1.length<=100000):Calls prog 316 #[.pointer (some ⟨g,0,none⟩)] w (pq (vJ jo w.heap.size) w g (mF wH 8 s)):=by
 have HG:=zH hx.lt;have K0:=zH (Bu hx hl 8);have HC:=zH (Er 8 s);have HT0:=zH (ak (Al 8 s) hl);have HR:Hid (mF wH 8 s=rN wH (jU 8 s).1 (jU 8 s).2):=zH rfl;clear hx hl;generalize mF wH 8 s=res at*;generalize jU 8 s=q0 at*;obtain ⟨n,s0⟩:=q0;obtain ⟨F,hF⟩:∃ F:Nat ->List gD×Rd,F=fun k=>rN wH k s0:=⟨_,rfl⟩
 have P0:Hid (F 0=([],s0)):=zH (by rw [hF];rfl);have PS:Hid (∀ k,F (k+1)=((F k).1++[(wH (F k).2).1],(wH (F k).2).2)):=zH (fun k=>by rw [hF];exact Gu wH k s0);have PL:Hid (∀ k,(F k).1.length=k):=zH (fun k=>by rw [hF];exact Pb wH k s0);have PT:Hid (∀ k,(F k).2.1.length<=100000):=zH (fun k=>by rw [hF];exact ak (Tn WY k s0) HT0.o);have HF:Hid (res=F n):=zH (by rw [hF];exact HR.o);clear hF HR;go_enter func316,ntmps316
 go_wp2_with fail
 refine K0.o.mono ?_;rintro e w1 ⟨v,rfl,hv,hx1,hb1⟩;obtain rfl:v= .int .i64 n:=hv;have uo:=zH hx1;have HB1:=zH hb1;clear hx1 hb1 K0;go_wp2_with fail
 go_loopw [3,6] (fun z i wr=>∃ k:Nat,k<=n/\i= .int .i64 k/\iO (fun b=>w.heap.size<=b) jo w.heap.size wr z (F k).1/\jB wr g (F k).2/\But g w wr) (fun _ i _=>n-(intOf i).toNat)
 case atStart=>exact ⟨0,aL _,rfl,by rw [P0.o];exact iO.nil _ _ _,by rw [P0.o];exact uo.o,HB1.o⟩
 case round=>
  obtain ⟨k,hk,rfl,ho,hx,hb⟩:=hrel;have HO:=zH ho;have HX:=zH hx;have HB:=zH hb;clear ho hx hb
  by_cases hlt:k<n
  ·have PK:=zH (PS.o k)
   have LK:=zH (PL.o k);have TK:=zH (PT.o k);have hn64:n<=64:=ak HC.o (by decide);have KN:=zH (reff_any HX.o TK.o);generalize wH (F k).2=q at*;obtain ⟨x,t⟩:=q;go_wp2_with fail
   refine KN.o.mono ?_;rintro e w2 ⟨v,rfl,⟨da,dn,dc,rfl,hd⟩,hx2,hb2⟩;have O2:Hid (iO (fun b=>w.heap.size<=b) jo w.heap.size w2 _ (F k).1):=zH (HO.o.but hb2 HG.o fun b hb e=>by have:=HG.o;omega);have N2:=zH (hd.new pX);have Zr:=zH HB.o.size;have Z2:=zH hb2.size;have OL:=zH HO.o.lt;have G2:=zH (HB.o.trans hb2);have X2:=zH hx2;clear hx2 hb2 KN hd;go_wp2_with (at_builtin;refine kE (fun b=>w.heap.size<=b) jo rfl (.tmp 8) (.tmp 11) rfl w.heap.size rfl (O2.o.alloc _) rfl (one_effN (x:=x) (N:=w.heap.size) N2.o (fun k hk=>(OL.o k hk).2) Z2.o Zr.o) (fun _ _ h=>h) (by rw [LK.o];simp;omega) (by have:=G2.o.size;simp;omega) ?_)
   intro v' w5 ho' hgr _;have O5:=zH ho';have G5:=zH ((G2.o.alloc HG.o _).grown hgr HG.o (fun j hj=>(O2.o.lt j hj).1));have X5:=zH ((X2.o.below ((aj _ _).alloc (ah _) _)).grown hgr (fun j hj=>ay HG.o (O2.o.lt j hj).1));clear ho' hgr;go_wp2_with fail
   go_roundw
   case rel=>exact ⟨k+1,by omega,by go_num,by rw [PK.o];exact O5.o,by rw [PK.o];exact X5.o,G5.o⟩
   case measure=>simp [intOf]<;>omega
  ·obtain rfl:k=n:=by omega
   go_wp2_with fail
   go_ret
   rw [HF.o];exact ⟨_,rfl,HO.o,HX.o,HB.o⟩
theorem Ah{w u:World}{g R:Nat}{v0 v1 v2 v3:Value}(h:But g w u)(hw:g<w.heap.size)(hR:w.heap.size<=R):But g w (st4 u R v0 v1 v2 v3):=(((h.store hw hR).store hw hR).store hw hR).store hw hR
theorem st4_box{w:World}{g R:Nat}{s:Rd}{v0 v1 v2 v3:Value}(h:jB w g s)(hR:g<R):jB (st4 w R v0 v1 v2 v3) g s:=(((h.store hR).store hR).store hR).store hR
theorem zh(w:World)(R:Nat)(v0 v1 v2 v3:Value):But R w (st4 w R v0 v1 v2 v3):=(((But.set R w 0 v0).trans (But.set R _ 1 v1)).trans (But.set R _ 2 v2)).trans (But.set R _ 3 v3)
def vX(B:Nat)(W:World)(v:Value)(x:fI):Prop:=∃ da dn dc ea en ec,v= .agg #[.int .i64 x.node,.int .i64 x.seq,.slice da dn dc,.slice ea en ec]/\gy gL B W (.slice da dn dc) x.deps/\iO (fun b=>B<=b) jo B W (.slice ea en ec) x.effs
theorem rtxn_any{w:World}{g:Nat}{s:Rd}(hx:jB w g s)(hl:s.1.length<=100000):Calls prog 286 #[.pointer (some ⟨g,0,none⟩)] w (pq (vX w.heap.size) w g (Ee s)):=by
 have HG:=zH hx.lt;have xA:Hid (w.heap.size≠g):=zH (by have:=hx.lt;omega);have HR:Hid (Ee s=(⟨(iN s).1,(iN (iN s).2).1,(mF iN 8 (iN (iN s).2).2).1,(mF wH 8 (mF iN 8 (iN (iN s).2).2).2).1⟩,(mF wH 8 (mF iN 8 (iN (iN s).2).2).2).2)):=zH rfl;have L1:=zH (ak (lK s) hl);have L2:=zH (ak (lK (iN s).2) L1.o);have L3:=zH (ak (CK lK 8 (iN (iN s).2).2) L2.o);generalize Ee s=res at*;have hba:=zB w (.cells #[.int .i64 0,.int .i64 0,.slice none 0 0,.slice none 0 0] 82);have K0:=zH (qm (hx.below hba) hl);have R0:Hid ((w.alloc (.cells #[.int .i64 0,.int .i64 0,.slice none 0 0,.slice none 0 0] 82)).heap[w.heap.size]? =some (.cells #[.int .i64 0,.int .i64 0,.slice none 0 0,.slice none 0 0] 82 (0,0))):=zH (aM _ _);have Z0:Hid (w.heap.size<(w.alloc (.cells #[.int .i64 0,.int .i64 0,.slice none 0 0,.slice none 0 0] 82)).heap.size):=zH (by simp);have G0:Hid (But g w (w.alloc (.cells #[.int .i64 0,.int .i64 0,.slice none 0 0,.slice none 0 0] 82))):=zH (But.of hba (aT hx.lt));clear hx hl hba;go_enter func286,ntmps286
 go_upto_region 1 with fail
 generalize (w.alloc _)=w0 at*;generalize iN s=q1 at*;go_wp2_with fail
 refine K0.o.mono ?_;rintro e w1 ⟨v,rfl,hv,hx,hb⟩;obtain rfl:v= .int .i64 q1.1:=hv;have R1:=zH ((hb.block _ Z0.o xA.o).trans R0.o);have Z1:=zH (ay Z0.o hb.size);have G1:=zH (G0.o.trans hb);have K1:=zH (qm hx L1.o);generalize iN q1.2=q2 at*;clear hx hb K0;go_wp2_with fail
 refine K1.o.mono ?_;rintro e w2 ⟨v,rfl,hv,hx,hb⟩;obtain rfl:v= .int .i64 q2.1:=hv;have R2:=zH ((hb.block _ Z1.o xA.o).trans R1.o);have Z2:=zH (ay Z1.o hb.size);have G2:=zH (G1.o.trans hb);have K2:=zH (aap hx L2.o);generalize mF iN 8 q2.2=q3 at*;clear hx hb K1;go_wp2_with fail
 refine K2.o.mono ?_;rintro e w3 ⟨v,rfl,hd,hx,hb⟩;have R3:=zH ((hb.block _ Z2.o xA.o).trans R2.o);have Z3:=zH (ay Z2.o hb.size);have G3:=zH (G2.o.trans hb);change gy gL w2.heap.size w3 v q3.1 at hd;obtain ⟨da,dc,rfl,-,-,hd',-⟩:=hd.parts;have D3:=zH hd';have K3:=zH (aar hx L3.o);clear hx hb hd hd' K2;have HG2:Hid (g<w2.heap.size):=zH (Nat.lt_trans HG.o Z2.o);generalize q3.1.length=dn at*;generalize mF wH 8 q3.2=q4 at*;go_wp2_with fail
 refine K3.o.mono ?_;rintro e w4 ⟨v,rfl,he,hx,hb⟩;have R4:=zH ((hb.block _ Z3.o xA.o).trans R3.o);have G4:=zH (G3.o.trans hb);have X4:=zH hx;have D4:=zH (D3.o.but gU hb HG2.o);change iO (fun b=>w3.heap.size<=b) jo w3.heap.size w4 v q4.1 at he;obtain ⟨ea,ec,rfl,-,-,-,-⟩:=he.own.parts;have E4:=zH he;clear hx hb he K3;generalize q4.1.length=en at*;obtain ⟨⟨y0,y1,y2,y3⟩,f0,f1,f2,f3⟩:=iR R4.o;have FC:=zH (iR (oh (v0:= .int .i64 q1.1) (v1:= .int .i64 q2.1) (v2:= .slice da dn dc) (v3:= .slice ea en ec) R4.o)).1;have FG:=zH (Ah (v0:= .int .i64 q1.1) (v1:= .int .i64 q2.1) (v2:= .slice da dn dc) (v3:= .slice ea en ec) G4.o HG.o (ah _));have FX:=zH (st4_box (v0:= .int .i64 q1.1) (v1:= .int .i64 q2.1) (v2:= .slice da dn dc) (v3:= .slice ea en ec) X4.o HG.o);have FB:=zH (zh w4 w.heap.size (.int .i64 q1.1) (.int .i64 q2.1) (.slice da dn dc) (.slice ea en ec));have FD:=zH ((D4.o.but gU FB.o Z2.o).mono (aT Z2.o));have FE:Hid (iO (fun b=>w.heap.size<=b) jo w.heap.size _ _ q4.1):=zH (((E4.o.but FB.o Z3.o (fun b hb e=>by have:=Z3.o;omega)).mono (aT Z3.o)).imp fun b hb=>ak (aT Z3.o) hb);clear FB;unfold st4 at FC FG FX FD FE;go_wp2_with fail
 obtain ⟨g0,g1,g2,g3⟩:=FC.o;refine bodyPost_ret (v:= .agg #[.int .i64 q1.1,.int .i64 q2.1,.slice da dn dc,.slice ea en ec]) (by simp [results,results286,go_sem,g0,g1,g2,g3]) rfl ?_;rw [HR.o];exact ⟨_,rfl,⟨da,dn,dc,ea,en,ec,rfl,FD.o,FE.o⟩,FX.o,FG.o⟩
end Go.Proofs.YtfgcodcablpdcaaGreat