import Derived.Test.YtfgcodcablpdcaaGreatTxRds
import Derived.Test.YtfgcodcablpdcaaGreatCoMath
set_option linter.unusedVariables false
namespace Go.Proofs.YtfgcodcablpdcaaGreat.Plain
open Nm.Plain (fits)
abbrev Rb:=Bytes×Bool
def xq{α:Type}(c:iw α)(z:α)(s:Rb):α×Rb:=if s.2=true then (z,s) else (match c.get s.1 with| .ok a r=>(a,(r,false))| .err _=>(z,(s.1,true)))
theorem Bj{α:Type}{c:iw α}{z:α}{b r:Bytes}{a:α}(h:c.get b= .ok a r):xq c z (b,false)=(a,(r,false)):=by
 unfold xq
 rw [if_neg (by simp)]
 show (match c.get b with| .ok a r=>(a,((r,false):Rb))| .err _=>(z,(b,true)))=_
 rw [h]
theorem zX{α:Type}{c:iw α}{z:α}{b:Bytes}{e:Int}(h:c.get b= .err e):xq c z (b,false)=(z,(b,true)):=by
 unfold xq
 rw [if_neg (by simp)]
 show (match c.get b with| .ok a r=>(a,((r,false):Rb))| .err _=>(z,(b,true)))=_
 rw [h]
theorem vV{α:Type}{c:iw α}{z:α}{b:Bytes}:xq c z (b,true)=(z,(b,true)):=by
 unfold xq
 rw [if_pos rfl]
structure mO{α:Type}(get:Bytes ->mq α)(f:Rb ->α×Rb):Prop where
 ok:∀ {b a r},get b= .ok a r ->f (b,false)=(a,(r,false))
 err:∀ {b e},get b= .err e ->(f (b,false)).2.2=true
 past:∀ b,(f (b,true)).2.2=true
theorem mO.of{α:Type}{get:Bytes ->mq α}{f:Rb ->α×Rb}(h:mO get f){b:Bytes}(hf:(f (b,false)).2.2=false):get b= .ok (f (b,false)).1 (f (b,false)).2.1:=by
 cases e:get b with
 |ok a r=>rw [h.ok e]
 |err k=>rw [h.err e] at hf;cases hf
theorem qM{α:Type}(c:iw α)(z:α):mO c.get (xq c z):=
 ⟨fun h=>Bj h,fun h=>by rw [zX h],fun b=>by rw [vV]⟩
def mret{α:Type}(a:α):Rb ->α×Rb:=fun s=>(a,s)
def Q6{α β:Type}(f:Rb ->α×Rb)(g:α ->Rb ->β×Rb):Rb ->β×Rb:=fun s=>g (f s).1 (f s).2
theorem yV{α:Type}(a:α):mO (fun b=> .ok a b) (mret a):=⟨fun h=>(by cases h;rfl),fun h=>(by cases h),fun b=>rfl⟩
theorem qN{α β:Type}{g1:Bytes ->mq α}{f1:Rb ->α×Rb}{g2:α ->Bytes ->mq β}{f2:α ->Rb ->β×Rb}(h1:mO g1 f1)(h2:∀ a,mO (g2 a) (f2 a)):mO (fun b=>(g1 b).bind (g2 · ·)) (Q6 f1 f2):=by
 refine ⟨fun {b x r} h=> ?_,fun {b e} h=> ?_,fun b=> ?_⟩
 ·obtain ⟨a,m,e1,e2⟩:=mq.bind_ok h
  show f2 (f1 (b,false)).1 (f1 (b,false)).2=_
  rw [h1.ok e1];exact (h2 a).ok e2
 ·show (f2 (f1 (b,false)).1 (f1 (b,false)).2).2.2=_
  rcases mq.lM h with h|⟨a,m,e1,e2⟩
  ·have e3:=h1.err h
   generalize f1 (b,false)=p at*;obtain ⟨a,m,k⟩:=p;change k=true at e3;subst e3;exact (h2 a).past m
  ·rw [h1.ok e1]
   exact (h2 a).err e2
 ·show (f2 (f1 (b,true)).1 (f1 (b,true)).2).2.2=_
  have e3:=h1.past b;generalize f1 (b,true)=p at*;obtain ⟨a,m,k2⟩:=p;change k2=true at e3;subst e3;exact (h2 a).past m
theorem kU{α β:Type}{c:iw α}{d:iw β}{f:Rb ->α×Rb}{g:Rb ->β×Rb}(h1:mO c.get f)(h2:mO d.get g):mO (c.seq d).get (Q6 f fun a=>Q6 g fun x=>mret (a,x)):=
 qN h1 fun a=>qN h2 fun x=>yV (a,x)
theorem Cx{α β:Type}{c:iw α}{F:α ->β}{G:β ->α}{hh:∀ a,c.ok a ->G (F a)=a}{f:Rb ->α×Rb}(h1:mO c.get f):mO (c.emb F G hh).get (Q6 f fun a=>mret (F a)):=
 qN h1 fun a=>yV (F a)
def mN{α:Type}(f:Rb ->α×Rb):Nat ->Rb ->List α×Rb
 |0,s=>([],s)
 |k+1,s=>if s.2=true then ([],s) else ((f s).1::(mN f k (f s).2).1,(mN f k (f s).2).2)
theorem Gn{α:Type}(f:Rb ->α×Rb)(s:Rb):mN f 0 s=([],s):=rfl
theorem I9{α:Type}(f:Rb ->α×Rb)(k:Nat)(b:Bytes):mN f k (b,true)=([],(b,true)):=by cases k<;>rfl
theorem Cy{α:Type}(f:Rb ->α×Rb)(k:Nat)(b:Bytes):mN f (k+1) (b,false)=((f (b,false)).1::(mN f k (f (b,false)).2).1,(mN f k (f (b,false)).2).2):=rfl
theorem simb_N{α:Type}{c:iw α}{f:Rb ->α×Rb}(h:mO c.get f):∀ k,mO (Ao c k) (mN f k)
 |0=>yV []
 |k+1=>by
  have H:=qN h fun a=>qN (simb_N h k) fun l=>yV (a::l)
  exact ⟨fun e=>(Cy f k _).trans (H.ok e),fun e=>H.err e,fun b=>by rw [I9]⟩
def ig(k:Nat)(s:Rb):Nat×Rb:=if k<(xq iZ 0 s).1 then (0,((xq iZ 0 s).2.1,true)) else xq iZ 0 s
theorem zY(k:Nat)(s:Rb):(ig k s).1<=k:=by
 unfold ig
 split
 ·exact aL _
 ·omega
theorem Ja(k:Nat):mO (fun b=>(jh b).bind fun n r=>if k<n then .err 2 else .ok n r) (ig k):=by
 refine ⟨fun {b a r} h=> ?_,fun {b e} h=> ?_,fun b=> ?_⟩
 ·obtain ⟨n,m,h1,h2⟩:=mq.bind_ok h
  split at h2
  ·cases h2
  ·rename_i hn
   cases h2
   unfold ig;rw [Bj (show iZ.get b=_ from h1),if_neg hn]
 ·rcases mq.lM h with h|⟨n,m,h1,h2⟩
  ·unfold ig
   rw [zX (show iZ.get b=_ from h),if_neg (by show ¬ k<0;omega)]
  ·split at h2
   ·rename_i hn
    cases h2
    unfold ig;rw [Bj (show iZ.get b=_ from h1),if_pos hn]
   ·cases h2
 ·unfold ig
  rw [vV,if_neg (by show ¬ k<0;omega)]
theorem Yz{α:Type}{c:iw α}{f:Rb ->α×Rb}(h:mO c.get f)(k:Nat)(hk:k<72057594037927936)(he:(2:Int)≠0):mO (c.list k 2 hk he).get (Q6 (ig k) fun n=>mN f n):=by
 have H:=qN (g2:=fun n r=>Ao c n r) (Ja k) fun n=>simb_N h n
 have e:(c.list k 2 hk he).get=fun b=>((jh b).bind fun n r=>if k<n then mq.err 2 else .ok n r).bind fun n r=>Ao c n r:=by
  funext b
  rw [oH]
  show (jh b).bind _=(jh b).bind _
  congr 1
  funext n r
  split<;>rfl
 rw [e];exact H
def gF(s:Rb):Int×Rb:=(((xq iZ 0 s).1:Int),(xq iZ 0 s).2)
theorem rW:mO kP.get gF:=Cx (qM iZ 0)
def gJ{α:Type}(f:Rb ->α×Rb)(k:Nat)(s:Rb):List α×Rb:=mN f (ig k s).1 (ig k s).2
def gK:Rb ->iE×Rb:=xq iQ []
def Cz:Rb ->Int×Rb:=xq qz 0
def uF:Rb ->fI×Rb:=xq kC default
def Jb(s:Rb):Bool×Rb:=(decide ((ig 1 s).1=1),(ig 1 s).2)
theorem U1:mO uU.get Jb:=by
 have E:∀ b,uU.get b=((jh b).bind fun n r=>if 1<n then mq.err 2 else .ok n r).bind fun n r=> .ok (decide (n=1)) r:=by
  intro b
  show ((((jh b).bind fun a r=>mq.ok ((a:Nat):Int) r).bind fun a r=>if (decide (a=0)||decide (a=1))=true then mq.ok a r else .err 2).bind fun a r=>mq.ok (decide (a=1)) r)=_
  rw [oH,oH,oH]
  congr 1
  funext n r
  show ((if (decide ((n:Int)=0)||decide ((n:Int)=1))=true then mq.ok (n:Int) r else .err 2).bind fun a r=>mq.ok (decide (a=1)) r)=_
  by_cases h:1<n
  ·rw [if_pos h,if_neg (by simp;omega)];rfl
  ·rw [if_neg h,if_pos (by simp;omega)]
   show mq.ok (decide ((n:Int)=1)) r=mq.ok (decide (n=1)) r
   congr 1
   exact decide_eq_decide.2 (by omega)
 have H:=qN (g2:=fun n r=>mq.ok (decide (n=1)) r) (Ja 1) fun n=>yV (decide (n=1))
 exact ⟨fun h=>H.ok ((E _).symm.trans h),fun h=>H.err ((E _).symm.trans h),fun b=>H.past b⟩
def mdot(s:Rb):gB×Rb:=(⟨(gF s).1,(gF (gF s).2).1,(gF (gF (gF s).2).2).1⟩,(gF (gF (gF s).2).2).2)
theorem simb_dot:mO yj.get mdot:=Cx (kU rW (kU rW rW))
def mi1(s:Rb):Rb:=(gK s).2
def mi2(s:Rb):Rb:=(gK (mi1 s)).2
def mi3(s:Rb):Rb:=(gF (mi2 s)).2
def mi4(s:Rb):Rb:=(gK (mi3 s)).2
def mi5(s:Rb):Rb:=(Cz (mi4 s)).2
def nA(s:Rb):fK×Rb:=(⟨(gK s).1,(gK (mi1 s)).1,(gF (mi2 s)).1,(gK (mi3 s)).1,(Cz (mi4 s)).1,(mdot (mi5 s)).1⟩,(mdot (mi5 s)).2)
theorem YA:mO yh.get nA:=Cx (kU (qM iQ []) (kU (qM iQ []) (kU rW (kU (qM iQ []) (kU (qM qz 0) simb_dot)))))
def mm1(s:Rb):Rb:=(gF s).2
def mm2(s:Rb):Rb:=(gF (mm1 s)).2
def mm3(s:Rb):Rb:=(Jb (mm2 s)).2
def mm4(s:Rb):Rb:=(gJ gF 8 (mm3 s)).2
def mm5(s:Rb):Rb:=(gJ gF 8 (mm4 s)).2
def mm6(s:Rb):Rb:=(gJ gK 8 (mm5 s)).2
def mm7(s:Rb):Rb:=(gJ gK 8 (mm6 s)).2
def mm8(s:Rb):Rb:=(gJ nA 32768 (mm7 s)).2
def yX(s:Rb):gu×Rb:=(⟨(gF s).1,(gF (mm1 s)).1,(Jb (mm2 s)).1,(gJ gF 8 (mm3 s)).1,(gJ gF 8 (mm4 s)).1,(gJ gK 8 (mm5 s)).1,(gJ gK 8 (mm6 s)).1,(gJ nA 32768 (mm7 s)).1,(gJ uF 4096 (mm8 s)).1⟩,(gJ uF 4096 (mm8 s)).2)
theorem YC{A1 A2 A3 A4 A5 A6 A7 A8 A9 B:Type}{c1:iw A1}{c2:iw A2}{c3:iw A3}{c4:iw A4}{c5:iw A5}{c6:iw A6}{c7:iw A7}{c8:iw A8}{c9:iw A9}
  {f1:Rb ->A1×Rb} {f2:Rb ->A2×Rb} {f3:Rb ->A3×Rb} {f4:Rb ->A4×Rb} {f5:Rb ->A5×Rb} {f6:Rb ->A6×Rb} {f7:Rb ->A7×Rb} {f8:Rb ->A8×Rb} {f9:Rb ->A9×Rb}
  (h1:mO c1.get f1) (h2:mO c2.get f2) (h3:mO c3.get f3) (h4:mO c4.get f4) (h5:mO c5.get f5) (h6:mO c6.get f6) (h7:mO c7.get f7) (h8:mO c8.get f8) (h9:mO c9.get f9)
  {F:A1×A2×A3×A4×A5×A6×A7×A8×A9 ->B} {G:B ->A1×A2×A3×A4×A5×A6×A7×A8×A9} {hh}:
  mO ((c1.seq (c2.seq (c3.seq (c4.seq (c5.seq (c6.seq (c7.seq (c8.seq c9)))))))).emb F G hh).get fun s=>
   let s1:=(f1 s).2;let s2:=(f2 s1).2;let s3:=(f3 s2).2;let s4:=(f4 s3).2;let s5:=(f5 s4).2;let s6:=(f6 s5).2;let s7:=(f7 s6).2;let s8:=(f8 s7).2
   (F ((f1 s).1,(f2 s1).1,(f3 s2).1,(f4 s3).1,(f5 s4).1,(f6 s5).1,(f7 s6).1,(f8 s7).1,(f9 s8).1),(f9 s8).2):=
 Cx (kU h1 (kU h2 (kU h3 (kU h4 (kU h5 (kU h6 (kU h7 (kU h8 h9))))))))
theorem qO{α:Type}{c:iw α}{f:Rb ->α×Rb}(h:mO c.get f)(k:Nat)(hk:k<72057594037927936)(he:(2:Int)≠0):mO (c.list k 2 hk he).get (gJ f k):=Yz h k hk he
theorem Lu:mO iQ.get gK:=qM iQ []
theorem simb_txn:mO kC.get uF:=qM kC default
theorem Q7:mO Bz.get yX:=by
 have h:=(show mO Bz.get _ from YC rW rW U1 (qO rW 8 _ _) (qO rW 8 _ _) (qO Lu 8 _ _) (qO Lu 8 _ _) (qO YA 32768 _ _) (qO simb_txn 4096 _ _));refine cast (congrArg (mO Bz.get) (funext fun s=> ?_)) h;unfold yX mm8 mm7 mm6 mm5 mm4 mm3 mm2 mm1
 with_reducible rfl
theorem YD{b:Bytes}(h:(yX (b,false)).2.2=true):xO b=none:=by
 unfold xO;have e:∀ m r,Fy.get b≠ .ok m r:=by
  intro m r e;obtain ⟨a,q,h1,-⟩:=mq.bind_ok (show (Bz.get b).bind _=_ from e);rw [Q7.ok h1] at h
  cases h
 split
 ·rename_i m h1;exact absurd h1 (e _ _)
 ·rfl
theorem U2{b:Bytes}(h:(yX (b,false)).2.2=false):Bz.ok (yX (b,false)).1/\xO b=if (yX (b,false)).2.1=[]/\fV (yX (b,false)).1=true then some (yX (b,false)).1 else none:=by
 have e:=Q7.of h;refine ⟨(Bz.bwd e).1,?_⟩;generalize yX (b,false)=p at*;obtain ⟨m,r,k⟩:=p;have e2:Fy.get b=if fV m=true then .ok m r else .err 2:=by
  show (Bz.get b).bind _=_
  rw [e]
  rfl
 unfold xO;rw [e2]
 by_cases hm:fV m=true
 ·rw [if_pos hm]
  cases r with
  |nil=>rw [if_pos ⟨rfl,hm⟩]
  |cons c r=>rw [if_neg (by rintro ⟨h,-⟩;cases h)]
 ·rw [if_neg hm,if_neg (fun h=>hm h.2)]
def NP{α:Type}(c:iw α)(M:Nat)(b:Bytes):Prop:=(∀ a q,c.get (b.take M)= .ok a q ->c.get b= .ok a (b.drop (min M b.length-q.length))/\q.length<min M b.length)/\∀ e,c.get (b.take M)= .err e ->∃ k,c.get b= .err k
theorem NQ{α:Type}{c:iw α}{M:Nat}{b:Bytes}(h:c.get b=uf M b (c.get (b.take M)))(hs:∀ {b r:Bytes} {a:α},c.get b= .ok a r ->r.length<b.length):NP c M b:=by
 refine ⟨fun a q e=> ?_,fun e k=> ?_⟩
 ·have:=hs e
  rw [aO] at this;rw [h,e];exact ⟨rfl,this⟩
 ·rw [h,k]
  exact ⟨_,rfl⟩
theorem locB_num(b:Bytes):NP iZ 8 b:=NQ (Lv b 8 (ah _)) vW
theorem locB_int(b:Bytes):NP qz 8 b:=NQ (Lx b) zZ
theorem YE(b:Bytes):NP iQ (sI b) b:=NQ (Jc b) xu
theorem LG{n:Nat}(h:n<128):(form n).length=1:=by rw [rE h];rfl
theorem YG{d:gB}(h:jX d=true):(yj.put d).length<=10:=by
 unfold jX at h;rw [decide_eq_true_iff] at h
 show (form d.node.toNat++(form d.seq.toNat++form d.pos.toNat)).length<=10
 rw [aA,aA];have h1:=LG (n:=d.node.toNat) (by omega);have h2:=gP d.seq.toNat (by omega);have h3:=LG (n:=d.pos.toNat) (by omega);omega
theorem YH{node seq:Int}{e:gD}(h:iD node seq e=true):(Gc.put e).length<=760:=by
 obtain ⟨h1,h2,h3,h4,h5,h6,h7,h8,h9⟩:=sZ h
 show (kP.put e.pos++(iQ.put e.key++(iQ.put e.field++(kP.put e.kind++(iQ.put e.elem++(lI e.n++(form e.drops.length++iA yj e.drops))))))).length<=_
 simp only [aA]
 have a1:=je (m:=e.pos) (by omega);have a2:=nG h1 (by omega);have a3:=nG h2 (by omega);have a4:=je (m:=e.kind) (by omega);have a5:=nG h3 (by omega);have a6:=mV e.n;have a7:=gP e.drops.length (by omega);have a8:=jC yj 10 e.drops fun d hd=>YG (h9 d hd)
 omega
theorem Eb{t:fI}(h:fQ t=true):(kC.put t).length<=6300:=by
 obtain ⟨h1,h2,h3,h4,h5⟩:=jq.1 h;have hr:0<=t.node/\t.node<=7/\1<=t.seq/\t.seq<=1073741824:=by
  unfold inRange at h1;exact bR h1
 obtain ⟨d1,d2⟩:=ug h2;have hf:∀ e∈t.effs,iD t.node t.seq e=true:=by
  unfold nN at h4;rw [aD,aR] at h4;exact h4.1
 show (kP.put t.node++(kP.put t.seq++((form t.deps.length++iA kP t.deps)++(form t.effs.length++iA Gc t.effs)))).length<=_
 simp only [aA]
 have a1:=je (m:=t.node) (by omega);have a2:=je (m:=t.seq) (by omega);have a3:=gP t.deps.length (by omega);have a4:=gP t.effs.length (by omega);have a5:=jC kP 8 t.deps fun n hn=>je (by have:=d2 n hn;omega)
 have a6:=jC Gc 760 t.effs fun e he=>YH (hf e he)
 have a7:t.effs.length*760<=8*760:=bN _ h3;omega
theorem LH{b r:Bytes}{t:fI}(h:kC.get b= .ok t r):r.length<b.length:=by
 obtain ⟨o,e⟩:=kC.bwd h;rw [<-e,aA];have:0<(kC.put t).length:=by
  show 0<(form t.node.toNat++_).length
  rw [aA];have:=Ph t.node.toNat;omega
 omega
theorem locB_txn(b:Bytes):NP kC 8192 b:=by
 refine ⟨fun a q e=> ?_,fun e h=> ?_⟩
 ·have hs:=LH e
  rw [aO] at hs;obtain ⟨o,h⟩:=kC.bwd e;refine ⟨?_,hs⟩;have hb:b=kC.put a++(q++b.drop 8192):=by
   rw [<-aY,h,List.take_append_drop]
  have hl:(kC.put a).length=min 8192 b.length-q.length:=by
   have:=congrArg List.length h;rw [aA,aO] at this;omega
  have g:=kC.fwd a (q++b.drop 8192) o;rw [<-hb] at g;rw [g]
  congr 1
  rw [<-hl]
  conv=>rhs;rw [hb]
  rw [List.drop_left]
 ·cases e2:kC.get b with
  |err k=>exact ⟨k,rfl⟩
  |ok a r=>
   obtain ⟨o,hb⟩:=kC.bwd e2;have hl:=Eb o.2;have:b.take 8192=kC.put a++r.take (8192-(kC.put a).length):=by
    rw [<-hb,List.take_append,cZ (by omega)]
   rw [this,kC.fwd a _ o] at h
   cases h
def Bl{α:Type}(f:Rb ->α×Rb):Prop:=∀ s,(f s).2.1.length<=s.1.length
theorem Aa{α:Type}{c:iw α}(z:α)(h:∀ {b r:Bytes} {a:α},c.get b= .ok a r ->r.length<b.length):Bl (xq c z):=by
 intro s;unfold xq
 split
 ·exact ah _
 ·cases e:c.get s.1 with
  |ok a r=>exact aT (h e)
  |err k=>exact ah _
theorem shrb_N{α:Type}{f:Rb ->α×Rb}(h:Bl f):∀ k,Bl (mN f k)
 |0,s=>ah _
 |k+1,s=>by
  unfold mN
  split
  ·exact ah _
  ·exact ak (shrb_N h k (f s).2) (h s)
theorem Ec:Bl (xq iZ 0):=Aa 0 vW
theorem kI:Bl gF:=fun s=>Ec s
theorem o8(k:Nat):Bl (ig k):=by
 intro s;unfold ig
 split
 ·exact Ec s
 ·exact Ec s
theorem lX{α:Type}{f:Rb ->α×Rb}(h:Bl f)(k:Nat):Bl (gJ f k):=fun s=>ak (shrb_N h _ _) (o8 k s)
theorem lY:Bl gK:=Aa [] xu
theorem Q8:Bl Cz:=Aa 0 zZ
theorem Q9:Bl uF:=Aa default LH
theorem U3:Bl Jb:=fun s=>o8 1 s
theorem shrb_dot:Bl mdot:=fun s=>ak (kI _) (ak (kI _) (kI _))
theorem Ed:Bl nA:=fun s=>ak (shrb_dot _) (ak (Q8 _) (ak (lY _) (ak (kI _) (ak (lY _) (lY _)))))
theorem le_m1(s:Rb):(mm1 s).1.length<=s.1.length:=kI s
theorem le_m2(s:Rb):(mm2 s).1.length<=s.1.length:=by unfold mm2;exact ak (kI (mm1 s)) (le_m1 s)
theorem le_m3(s:Rb):(mm3 s).1.length<=s.1.length:=by unfold mm3;exact ak (U3 (mm2 s)) (le_m2 s)
theorem le_m4(s:Rb):(mm4 s).1.length<=s.1.length:=by unfold mm4;exact ak (lX kI 8 (mm3 s)) (le_m3 s)
theorem le_m5(s:Rb):(mm5 s).1.length<=s.1.length:=by unfold mm5;exact ak (lX kI 8 (mm4 s)) (le_m4 s)
theorem le_m6(s:Rb):(mm6 s).1.length<=s.1.length:=by unfold mm6;exact ak (lX lY 8 (mm5 s)) (le_m5 s)
theorem le_m7(s:Rb):(mm7 s).1.length<=s.1.length:=by unfold mm7;exact ak (lX lY 8 (mm6 s)) (le_m6 s)
theorem le_m8(s:Rb):(mm8 s).1.length<=s.1.length:=by unfold mm8;exact ak (lX Ed 32768 (mm7 s)) (le_m7 s)
theorem shrb_msg:Bl yX:=fun s=>by unfold yX;have h1:=lX Q9 4096 (mm8 s);have h2:=le_m8 s;with_reducible exact ak h1 h2
def Bn(v:Ints):Bytes:=fZ [(v.length:Int)]++fZ v
def uh(z:List iE):Bytes:=fZ [(z.length:Int)]++iT z
def pI(x:fK):Bytes:=iT [x.key,x.field]++fZ [x.kind]++iT [x.elem]++lI x.n++fZ [x.dot.node,x.dot.seq,x.dot.pos]
def rX(b:Bool):Int:=if b then 1 else 0
def rJ(m:gu):Bytes:=fZ [m.kind,m.ticket,rX m.whole]++Bn m.vec++Bn m.from_++uh m.zone++uh m.want++fZ [(m.items.length:Int)]++m.items.flatMap pI++fZ [(m.fU.length:Int)]++m.fU.flatMap kC.put
theorem LJ(x:fK):pI x=yh.put x:=by
 unfold pI;rw [Ra]
 show _=(form x.key.length++wO x.key)++((form x.field.length++wO x.field)++(form x.kind.toNat++((form x.elem.length++wO x.elem)++(lI x.n++yj.put x.dot))))
 simp [fZ,iT,List.append_assoc]
theorem Rc(v:Ints):Bn v=Fx.put v:=by
 show _=form v.length++iA kP v
 have h2:fZ v=iA kP v:=rfl;unfold Bn;rw [h2];simp [fZ]
theorem LP(z:List iE):uh z=xM.put z:=by
 show _=form z.length++iA iQ z
 have h2:iT z=iA iQ z:=rfl;unfold uh;rw [h2];simp [fZ]
theorem yC(m:gu):rJ m=Fy.put m:=by
 have h:m.items.flatMap pI=iA yh m.items:=by
  unfold iA
  congr 1
  funext e
  exact LJ e
 have hw:fZ [rX m.whole]=uU.put m.whole:=by
  cases m.whole
  ·show form 0++[]=form 0
   rw [aV]
  ·show form 1++[]=form 1
   rw [aV]
 unfold rJ;rw [h,Rc,Rc,LP,LP]
 show _=kP.put m.kind++(kP.put m.ticket++(uU.put m.whole++(Fx.put m.vec++(Fx.put m.from_++(xM.put m.zone++(xM.put m.want++((form m.items.length++iA yh m.items)++(form m.fU.length++iA kC m.fU))))))))
 rw [<-hw];simp [fZ,iA,Pp,List.append_assoc]
theorem Ud{m:gu}(h:fV m=true):(Fy.put m).length<=1000+m.items.length*144+m.fU.length*6300:=by
 have f:=kJ.1 h;have hk:=yg f.uses;have t0:=f.t0;have t1:=f.t1
 show (kP.put m.kind++(kP.put m.ticket++(uU.put m.whole++(Fx.put m.vec++(Fx.put m.from_++(xM.put m.zone++(xM.put m.want++((form m.items.length++iA yh m.items)++(form m.fU.length++iA kC m.fU))))))))).length<=_
 simp only [aA]
 have hv:∀ {v:Ints},tJ v=true ->(Fx.put v).length<=72:=fun {v} hv=>by
  obtain ⟨h1,h2,h3⟩:=qA hv
  show (form v.length++iA kP v).length<=_
  rw [aA];have a1:=gP v.length (by omega);have a2:=jC kP 8 v fun n hn=>je (by have:=h3 n hn;omega)
  omega
 have hz:∀ {z:List iE},kG z=true ->(xM.put z).length<=200:=fun {z} hz=>by
  obtain ⟨h1,h2⟩:=rH hz
  show (form z.length++iA iQ z).length<=_
  rw [aA];have a1:=gP z.length (by omega);have a2:=jC iQ 24 z fun s hs=>by have:=nG (h2 s hs) (by omega);omega
  omega
 have a1:=je (m:=m.kind) (by omega);have a2:=je (m:=m.ticket) (by omega);have a3:(uU.put m.whole).length<=8:=by
  cases m.whole
  ·exact je (m:=0) (by omega)
  ·exact je (m:=1) (by omega)
 have a4:=hv f.vec;have a5:=hv f.from_;have a6:=hz f.zone;have a7:=hz f.want;have a8:=gP m.items.length (by have:=f.ilen;omega);have a9:=gP m.fU.length (by have:=f.tlen;omega);have b1:=jC yh 144 m.items fun x hx=>GV (tK (f.items x hx)).1
 have b2:=jC kC 6300 m.fU fun t ht=>Eb (f.fU t ht)
 omega
end Go.Proofs.YtfgcodcablpdcaaGreat.Plain
namespace Go.Proofs.YtfgcodcablpdcaaGreat
open Go.RowKit Plain
def mrb(a:Option Addr)(n c:Nat)(e:Bool):Obj:= .cells #[.slice a n c,.bool e] 134 (0,0)
theorem jE{w:World}{g:Nat}{a:Option Addr}{n c:Nat}{e:Bool}(h:w.heap[g]? =some (mrb a n c e)):
  w.cell? ⟨g,0,none⟩=some (.slice a n c)/\w.cell? ⟨g,1,none⟩=some (.bool e)/\w.frozen? ⟨g,0,none⟩=false/\w.frozen? ⟨g,1,none⟩=false:=by
 unfold mrb at h;refine ⟨?_,?_,?_,?_⟩
 ·simp [World.cell?,h]
 ·simp [World.cell?,h]
 ·unfold World.frozen?;rw [h];simp
 ·unfold World.frozen?;rw [h];simp
def iV(w:World)(g:Nat)(s:Rb):Prop:=∃ a c,w.heap[g]? =some (mrb a s.1.length c s.2)/\By.Seq w (.slice a s.1.length c) s.1/\(0<s.1.length ->NT g a)
theorem iV.lt{w:World}{g:Nat}{s:Rb}(h:iV w g s):g<w.heap.size:=by
 obtain ⟨a,c,h,-⟩:=h;exact (aH.1 h).1
theorem iV.keep{w w':World}{g:Nat}{s:Rb}(h:iV w g s)(hb:Below g w w')(he:w'.heap[g]? =w.heap[g]?):iV w' g s:=by
 obtain ⟨a,c,h,hs,hl⟩:=h;exact ⟨a,c,he.trans h,tq hs hl hb,hl⟩
theorem iV.below{w w':World}{g:Nat}{s:Rb}(h:iV w g s)(hb:Below w.heap.size w w'):iV w' g s:=h.keep (hb.mono (aT h.lt)) (hb.block g h.lt)
theorem iV.grown{w w':World}{g:Nat}{s:Rb}{row:Option Nat}(h:iV w g s)(hg:w.grownBy w' row)(hr:∀ k,row=some k ->g<k):iV w' g s:=
 h.keep ((aj g w).grown hg (aT h.lt) fun k hk=>aT (hr k hk)) (hg.block g h.lt fun e=>by have:=hr g e.symm;omega)
theorem iV.store{w:World}{g R i:Nat}{s:Rb}{v:Value}(h:iV w g s)(hR:g<R):iV (w.setCell ⟨R,i,none⟩ v) g s:=
 h.keep ((aj g w).setCell (aT hR) v) (aN _ _ _ _ (Nat.ne_of_lt hR))
theorem iV.parts{w:World}{g:Nat}{s:Rb}(h:iV w g s):∃ a n c,n=s.1.length/\n<=c/\c<=9223372036854775807/\(a=none ->c=0)/\w.heap[g]? =some (mrb a n c s.2)/\By.Seq w (.slice a n c) s.1/\(0<s.1.length ->NT g a):=by
 obtain ⟨a,c,h,hs,hl⟩:=h;have hs':=hs;obtain ⟨a',c',hv,h1,h2,h0,-⟩:=hs';simp only [aC] at hv
 obtain ⟨rfl,-,rfl⟩:=hv;exact ⟨a,_,c,rfl,h1,h2,h0,h,hs,hl⟩
theorem mrb_set0{w:World}{g:Nat}{a a':Option Addr}{n c n' c':Nat}{e:Bool}(h:w.heap[g]? =some (mrb a n c e)):(w.setCell ⟨g,0,none⟩ (.slice a' n' c')).heap[g]? =some (mrb a' n' c' e):=
 aB _ g 0 _ _ _ h
theorem mrb_set1{w:World}{g:Nat}{a:Option Addr}{n c:Nat}{e e':Bool}(h:w.heap[g]? =some (mrb a n c e)):(w.setCell ⟨g,1,none⟩ (.bool e')).heap[g]? =some (mrb a n c e'):=
 aB _ g 1 _ _ _ h
theorem nR{w:World}{g:Nat}{a a':Option Addr}{n c c':Nat}{e:Bool}{r:Bytes}(h:w.heap[g]? =some (mrb a n c e))(hs:By.Seq w (.slice a' r.length c') r)(hl:0<r.length ->NT g a'):iV (w.setCell ⟨g,0,none⟩ (.slice a' r.length c')) g (r,e):=
 ⟨a',c',mrb_set0 h,tq hs hl (But.set g w 0 _).below,hl⟩
theorem vY{w:World}{g:Nat}{a:Option Addr}{c:Nat}{e e':Bool}{r:Bytes}(h:w.heap[g]? =some (mrb a r.length c e))(hs:By.Seq w (.slice a r.length c) r)(hl:0<r.length ->NT g a):iV (w.setCell ⟨g,1,none⟩ (.bool e')) g (r,e'):=
 ⟨a,c,mrb_set1 h,tq hs hl (But.set g w 1 _).below,hl⟩
def lZ{α:Type}(val:World ->Value ->α ->Prop)(w:World)(g:Nat)(p:α×Rb)(e:Ending)(w':World):Prop:=∃ v,e= .returned v/\val w' v p.1/\iV w' g p.2/\But g w w'
end Go.Proofs.YtfgcodcablpdcaaGreat