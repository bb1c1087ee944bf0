import Derived.Test.YtfgcodcablpdcaaGreatMaths
import Derived.Test.YtfgcodcablpdcaaGreatRows
import Derived.Lib.Hide
import Derived.OpenShut
import Derived.Laws.AppendOwnNone
import Derived.BigQuiet
import Derived.WalkSmall
import Derived.Lib.AppendZeros
import Derived.WalkSpells
set_option linter.unusedVariables false
namespace Go.Proofs.YtfgcodcablpdcaaGreat.Plain
open Go.Proofs.Tryz
abbrev Bytes:=List (BitVec 8)
def by8(n:Nat):BitVec 8:=BitVec.ofNat 8 n
theorem mU(n:Nat)(h:n<256):(by8 n).toNat=n:=by unfold by8;rw [BitVec.toNat_ofNat];exact Nat.mod_eq_of_lt h
theorem TI(c:BitVec 8):by8 c.toNat=c:=by unfold by8;exact BitVec.ofNat_toNat ..
def form(n:Nat):Bytes:=if n<128 then [by8 n] else by8 (n%128+128)::form (n/128)
theorem rE{n:Nat}(h:n<128):form n=[by8 n]:=by rw [form,if_pos h]
theorem qx{n:Nat}(h:128<=n):form n=by8 (n%128+128)::form (n/128):=by rw [form,if_neg (by omega)]
theorem Ph(n:Nat):0<(form n).length:=by
 by_cases h:n<128
 ·rw [rE h];simp
 ·rw [qx (by omega)];simp
theorem Pj:∀ (k n:Nat),n<128^(k+1) ->(form n).length<=k+1
 |0,n,h=>by rw [rE (by simpa using h)];simp
 |k+1,n,h=>by
  by_cases g:n<128
  ·rw [rE g];simp
  ·rw [qx (by omega),List.length_cons]
   have:=Pj k (n/128) (by
    rw [Nat.div_lt_iff_lt_mul (by omega)];rw [Nat.pow_succ] at h;exact h)
   omega
theorem gP(n:Nat)(h:n<72057594037927936):(form n).length<=8:=Pj 7 n (by omega)
def rd:Nat ->Nat ->Bytes ->Nat×Nat×Nat
 |i,_,[]=>(0,0,if i<8 then 3 else 2)
 |i,a,c::r=>
  if i<8 then
   if 128<=c.toNat then rd (i+1) (a+(c.toNat-128)*128^i) r
   else if c.toNat=0/\0<i then (0,0,2)
   else (a+c.toNat*128^i,i+1,0)
  else (0,0,2)
def read(xs:Bytes):Nat×Nat×Nat:=rd 0 0 xs
theorem Dh(i a:Nat):rd i a []=(0,0,if i<8 then 3 else 2):=rfl
theorem Mq(i a:Nat)(c:BitVec 8)(r:Bytes)(h:¬ i<8):rd i a (c::r)=(0,0,2):=by simp only [rd,if_neg h]
theorem uG(i a:Nat)(c:BitVec 8)(r:Bytes)(h:i<8)(g:128<=c.toNat):rd i a (c::r)=rd (i+1) (a+(c.toNat-128)*128^i) r:=by
 simp only [rd,if_pos h,if_pos g]
theorem zI(i a:Nat)(c:BitVec 8)(r:Bytes)(h:i<8)(g:c.toNat=0)(p:0<i):rd i a (c::r)=(0,0,2):=by
 simp only [rd,if_pos h,if_neg (show ¬ 128<=c.toNat by omega),if_pos (show c.toNat=0/\0<i from ⟨g,p⟩)]
theorem sJ(i a:Nat)(c:BitVec 8)(r:Bytes)(h:i<8)(g:c.toNat<128)(p:c.toNat=0 ->i=0):rd i a (c::r)=(a+c.toNat*128^i,i+1,0):=by
 have q:¬ (c.toNat=0/\0<i):=fun ⟨x,y⟩=>by have:=p x;omega
 simp only [rd,if_pos h,if_neg (show ¬ 128<=c.toNat by omega),if_neg q]
theorem Wi:∀ (k n i a:Nat) (more:Bytes),i+k=7 ->n<128^(k+1) ->(0<i ->0<n) ->rd i a (form n++more)=(a+n*128^i,i+(form n).length,0)
 |k,n,i,a,more,hk,hn,hp=>by
  by_cases g:n<128
  ·rw [rE g,List.singleton_append,sJ i a _ _ (by omega) (by rw [mU n (by omega)];exact g) (by rw [mU n (by omega)];omega),mU n (by omega)]
   simp
  ·match k,hk,hn with
   |0,hk,hn=>exact absurd hn (by simp;omega)
   |k+1,hk,hn=>
    rw [qx (by omega),List.cons_append,uG i a _ _ (by omega) (by rw [mU _ (by omega)];omega),mU _ (by omega)];rw [Wi k (n/128) (i+1) _ more (by omega) (by rw [Nat.div_lt_iff_lt_mul (by omega)];rw [Nat.pow_succ] at hn;exact hn) (by omega)];rw [List.length_cons];have e:a+(n%128+128-128)*128^i+n/128*128^(i+1)=a+n*128^i:=by
     rw [Nat.add_sub_cancel,Nat.pow_succ,Nat.add_assoc]
     congr 1
     rw [Nat.mul_comm (128^i) 128,<-Nat.mul_assoc,<-Nat.add_mul]
     congr 1
     omega
    rw [e,show i+1+(form (n/128)).length=i+((form (n/128)).length+1) by omega]
theorem Kk(n:Nat)(more:Bytes)(h:n<72057594037927936):read (form n++more)=(n,(form n).length,0):=by
 unfold read;rw [Wi 7 n 0 0 more rfl (by omega) (by omega)];simp
theorem Wj:∀ (xs:Bytes) (i a n s:Nat),rd i a xs=(n,s,0) ->
  ∃ m,n=a+m*128^i/\form m=xs.take (s-i)/\i<s/\s<=8/\s-i<=xs.length/\(0<i ->0<m)/\m<128^(s-i)
 |[],i,a,n,s,h=>by
  rw [Dh] at h;simp only [Prod.mk.injEq] at h
  obtain ⟨-,-,h⟩:=h
  split at h<;>omega
 |c::r,i,a,n,s,h=>by
  by_cases hi:i<8
  ·by_cases g:128<=c.toNat
   ·rw [uG i a c r hi g] at h
    obtain ⟨m,h1,h2,h3,h4,h5,h6,h7⟩:=Wj r (i+1) _ n s h;have hm:=h6 (by omega);have hc:=c.isLt;refine ⟨c.toNat-128+m*128,?_,?_,by omega,h4,by rw [List.length_cons];omega,by omega,?_⟩
    ·rw [h1,Nat.pow_succ,Nat.add_mul,Nat.add_assoc,Nat.mul_comm (128^i) 128,Nat.mul_assoc]
    ·rw [qx (by omega),show (c.toNat-128+m*128)%128+128=c.toNat by omega,show (c.toNat-128+m*128)/128=m by omega,h2,TI,show s-i=(s-(i+1))+1 by omega,List.take_succ_cons]
    ·rw [show s-i=(s-(i+1))+1 by omega,Nat.pow_succ]
     omega
   ·by_cases z:c.toNat=0/\0<i
    ·rw [zI i a c r hi z.1 z.2] at h;simp at h
    ·rw [sJ i a c r hi (by omega) (by omega)] at h
     simp only [Prod.mk.injEq,and_true] at h
     obtain ⟨rfl,rfl⟩:=h;refine ⟨c.toNat,rfl,?_,by omega,by omega,by rw [List.length_cons];omega,by omega,by rw [show i+1-i=1 by omega];omega⟩;rw [rE (by omega),TI,show i+1-i=0+1 by omega,List.take_succ_cons,List.take_zero]
  ·rw [Mq i a c r hi] at h;simp at h
theorem qy{xs:Bytes}{n s:Nat}(h:read xs=(n,s,0)):form n=xs.take s/\n<72057594037927936/\0<s/\s<=8/\s<=xs.length:=by
 obtain ⟨m,h1,h2,h3,h4,h5,h6,h7⟩:=Wj xs 0 0 n s h;have e:n=m:=by simpa using h1
 subst e;rw [Nat.sub_zero] at h2 h5 h7;refine ⟨h2,?_,h3,h4,h5⟩;have:128^s<=128^8:=Nat.pow_le_pow_right (by omega) h4;omega
theorem rd_err:∀ (xs:Bytes) (i a:Nat),(rd i a xs).2.2=0\/rd i a xs=(0,0,2)\/rd i a xs=(0,0,3)
 |[],i,a=>by rw [Dh];by_cases h:i<8<;>simp [h]
 |c::r,i,a=>by
  by_cases hi:i<8
  ·by_cases g:128<=c.toNat
   ·rw [uG i a c r hi g];exact rd_err r (i+1) _
   ·by_cases z:c.toNat=0/\0<i
    ·rw [zI i a c r hi z.1 z.2];simp
    ·rw [sJ i a c r hi (by omega) (by omega)];simp
  ·rw [Mq i a c r hi];simp
theorem oL(xs:Bytes):(∃ n s,read xs=(n,s,0))\/read xs=(0,0,2)\/read xs=(0,0,3):=by
 rcases rd_err xs 0 0 with h|h|h
 ·exact .inl ⟨_,_,by rw [<-h];rfl⟩
 ·exact .inr (.inl h)
 ·exact .inr (.inr h)
def low(m:Int)(i:Nat):BitVec 8:=by8 ((m%18446744073709551616).toNat/256^i%256)
def lI(m:Int):Bytes:=[low m 0,low m 1,low m 2,low m 3,low m 4,low m 5,low m 6,low m 7]
theorem mV(m:Int):(lI m).length=8:=rfl
def ival(xs:Bytes):Nat:=match xs with
 |[]=>0
 |c::r=>c.toNat+256*ival r
def Pg(u:Nat):Int:=if u<9223372036854775808 then u else (u:Int)-18446744073709551616
theorem TJ(m:Int):ival (lI m)=(m%18446744073709551616).toNat:=by
 have h:(m%18446744073709551616).toNat<18446744073709551616:=by omega
 unfold lI low;generalize (m%18446744073709551616).toNat=u at*;simp only [ival,mU _ (Nat.mod_lt _ (show 0<256 by omega))]
 omega
theorem Xo(m:Int)(h: -9223372036854775808<=m)(h':m<=9223372036854775807):Pg (ival (lI m))=m:=by
 rw [TJ];unfold Pg;split<;>omega
theorem Mr:∀ (xs:Bytes),ival xs<256^xs.length
 |[]=>by simp [ival]
 |c::r=>by
  have:=Mr r;have:=c.isLt;rw [ival,List.length_cons,Nat.pow_succ];omega
theorem Xm(xs:Bytes)(c:BitVec 8):ival (xs++[c])=ival xs+c.toNat*256^xs.length:=by
 induction xs with
 |nil=>simp [ival]
 |cons d r ih=>
  rw [List.cons_append,ival,ih,ival,List.length_cons,Nat.pow_succ];rw [Nat.mul_add,Nat.add_assoc]
  congr 2
  rw [Nat.mul_comm (256^r.length) 256,<-Nat.mul_assoc,<-Nat.mul_assoc,Nat.mul_comm 256 c.toNat]
def bs(s:ByteArray):Bytes:=s.data.toList.map UInt8.toBitVec
def sb(xs:Bytes):ByteArray:=⟨(xs.map UInt8.ofBitVec).toArray⟩
theorem Ms(s:ByteArray):(bs s).length=s.size:=by unfold bs;rw [List.length_map];rfl
def Wh(s:ByteArray):Bytes:=form s.size++bs s
inductive mq (α:Type) where
 |ok (a:α) (rest:Bytes):mq α
 |err (e:Int):mq α
def mq.bind{α β:Type}(r:mq α)(f:α ->Bytes ->mq β):mq β:=match r with
 | .ok a rest=>f a rest
 | .err e=> .err e
theorem mq.lM{α β:Type}{r:mq α}{f:α ->Bytes ->mq β}{e:Int}(h:r.bind f= .err e):r= .err e\/∃ a m,r= .ok a m/\f a m= .err e:=by
 cases r with
 |ok a m=>exact .inr ⟨a,m,rfl,h⟩
 |err k=>
  left
  cases h
  rfl
theorem mq.bind_ok{α β:Type}{r:mq α}{f:α ->Bytes ->mq β}{b:β}{rest:Bytes}(h:r.bind f= .ok b rest):∃ a m,r= .ok a m/\f a m= .ok b rest:=by
 cases r with
 |ok a m=>exact ⟨a,m,rfl,h⟩
 |err e=>cases h
structure iw(α:Type) where
 put:α ->Bytes
 get:Bytes ->mq α
 ok:α ->Prop
 fwd:∀ a more,ok a ->get (put a++more)= .ok a more
 bwd:∀ {b a rest},get b= .ok a rest ->ok a/\put a++rest=b
 cut:∀ a n,ok a ->n<(put a).length ->get ((put a).take n)= .err 3
 bad:∀ {b e},get b= .err e ->e≠0
section
variable {α β:Type}
theorem Bv(x y:Bytes)(n:Nat):(x++y).take n=if n<x.length then x.take n else x++y.take (n-x.length):=by
 split
 ·rename_i h
  rw [List.take_append_of_le_length (by omega)]
 ·rename_i h
  rw [List.take_append];rw [List.take_of_length_le (by omega)]
def iw.seq(c:iw α)(d:iw β):iw (α×β) where
 put p:=c.put p.1++d.put p.2
 get b:=(c.get b).bind fun a m=>(d.get m).bind fun x r=> .ok (a,x) r
 ok p:=c.ok p.1/\d.ok p.2
 fwd:=fun ⟨a,x⟩ more ⟨h1,h2⟩=>by
  show (c.get (c.put a++d.put x++more)).bind _=_
  rw [List.append_assoc,c.fwd a _ h1]
  show (d.get (d.put x++more)).bind _=_
  rw [d.fwd x _ h2]
  rfl
 bwd:=fun {b p rest} h=>by
  obtain ⟨a,m,h1,h2⟩:=mq.bind_ok h;obtain ⟨x,r,h3,h4⟩:=mq.bind_ok h2
  cases h4
  obtain ⟨o1,e1⟩:=c.bwd h1;obtain ⟨o2,e2⟩:=d.bwd h3;exact ⟨⟨o1,o2⟩,by show c.put a++d.put x++rest=b;rw [List.append_assoc,e2,e1]⟩
 cut:=fun ⟨a,x⟩ n ⟨h1,h2⟩ hn=>by
  show (c.get ((c.put a++d.put x).take n)).bind _=_
  change n<(c.put a++d.put x).length at hn;rw [List.length_append] at hn;rw [Bv]
  split
  ·rename_i h
   rw [c.cut a n h1 h]
   rfl
  ·rename_i h
   rw [c.fwd a _ h1]
   show (d.get _).bind _=_
   rw [d.cut x _ h2 (by omega)]
   rfl
 bad:=fun {b e} h=>by
  rcases mq.lM h with h|⟨a,m,-,h⟩
  ·exact c.bad h
  ·rcases mq.lM h with h|⟨x,r,-,h⟩
   ·exact d.bad h
   ·cases h
def iw.emb(c:iw α)(f:α ->β)(g:β ->α)(h1:∀ a,c.ok a ->g (f a)=a):iw β where
 put b:=c.put (g b)
 get b:=(c.get b).bind fun a r=> .ok (f a) r
 ok b:=c.ok (g b)/\f (g b)=b
 fwd:=fun b more h=>by
  rw [c.fwd _ _ h.1]
  show mq.ok (f (g b)) more=_
  rw [h.2]
 bwd:=fun {b p rest} h=>by
  obtain ⟨a,m,e1,e2⟩:=mq.bind_ok h
  cases e2
  obtain ⟨o,e⟩:=c.bwd e1;rw [h1 a o];exact ⟨⟨o,rfl⟩,e⟩
 cut:=fun b n h hn=>by
  rw [c.cut _ _ h.1 hn]
  rfl
 bad:=fun {b e} h=>by
  rcases mq.lM h with h|⟨a,m,-,h⟩
  ·exact c.bad h
  ·cases h
def Ao(c:iw α):Nat ->Bytes ->mq (List α)
 |0,b=> .ok [] b
 |k+1,b=>(c.get b).bind fun a m=>(Ao c k m).bind fun l r=> .ok (a::l) r
def iA(c:iw α)(l:List α):Bytes:=l.flatMap c.put
theorem rG(c:iw α)(a:α)(l:List α):iA c (a::l)=c.put a++iA c l:=by unfold iA;rw [List.flatMap_cons]
theorem Gz(c:iw α):∀ (k:Nat) {b:Bytes} {e:Int},Ao c k b= .err e ->e≠0
 |0,b,e,h=>by cases h
 |k+1,b,e,h=>by
  rcases mq.lM h with h|⟨a,m,-,h⟩
  ·exact c.bad h
  ·rcases mq.lM h with h|⟨x,r,-,h⟩
   ·exact Gz c k h
   ·cases h
theorem Pk(c:iw α):∀ (l:List α) (more:Bytes),(∀ a∈l,c.ok a) ->Ao c l.length (iA c l++more)= .ok l more
 |[],more,_=>rfl
 |a::l,more,h=>by
  show (c.get (iA c (a::l)++more)).bind _=_
  rw [rG,List.append_assoc,c.fwd a _ (h a List.mem_cons_self)]
  show (Ao c l.length (iA c l++more)).bind _=_
  rw [Pk c l more fun x hx=>h x (List.mem_cons_of_mem _ hx)]
  rfl
theorem Pm(c:iw α):∀ (k:Nat) {b:Bytes} {l:List α} {rest:Bytes},Ao c k b= .ok l rest ->l.length=k/\(∀ a∈l,c.ok a)/\iA c l++rest=b
 |0,b,l,rest,h=>by
  cases h
  exact ⟨rfl,fun a ha=>absurd ha (by simp),rfl⟩
 |k+1,b,l,rest,h=>by
  obtain ⟨a,m,h1,h2⟩:=mq.bind_ok h;obtain ⟨l2,r,h3,h4⟩:=mq.bind_ok h2
  cases h4
  obtain ⟨o,e⟩:=c.bwd h1;obtain ⟨g1,g2,g3⟩:=Pm c k h3;refine ⟨by rw [List.length_cons,g1],fun x hx=> ?_,by rw [rG,List.append_assoc,g3,e]⟩
  rcases List.mem_cons.1 hx with rfl|hx
  ·exact o
  ·exact g2 x hx
theorem Pn(c:iw α):∀ (l:List α) (n:Nat),(∀ a∈l,c.ok a) ->n<(iA c l).length ->Ao c l.length ((iA c l).take n)= .err 3
 |[],n,_,hn=>absurd hn (by simp [iA])
 |a::l,n,h,hn=>by
  have ha:=h a List.mem_cons_self
  show (c.get ((iA c (a::l)).take n)).bind _=_
  rw [rG,List.length_append] at hn;rw [rG,Bv]
  split
  ·rename_i g
   rw [c.cut a n ha g]
   rfl
  ·rename_i g
   rw [c.fwd a _ ha]
   show (Ao c l.length _).bind _=_
   rw [Pn c l _ (fun x hx=>h x (List.mem_cons_of_mem _ hx)) (by omega)]
   rfl
def iw.test(c:iw α)(p:α ->Bool)(e:Int)(he:e≠0):iw α where
 put:=c.put
 get b:=(c.get b).bind fun a r=>if p a=true then .ok a r else .err e
 ok a:=c.ok a/\p a=true
 fwd:=fun a more h=>by
  rw [c.fwd a more h.1]
  show (if p a=true then mq.ok a more else .err e)=_
  rw [if_pos h.2]
 bwd:=fun {b a rest} h=>by
  obtain ⟨x,r,h1,h2⟩:=mq.bind_ok h
  split at h2
  ·rename_i hp
   cases h2
   exact ⟨⟨(c.bwd h1).1,hp⟩,(c.bwd h1).2⟩
  ·cases h2
 cut:=fun a n h hn=>by
  rw [c.cut a n h.1 hn]
  rfl
 bad:=fun {b k} h=>by
  rcases mq.lM h with h|⟨a,m,-,h⟩
  ·exact c.bad h
  ·split at h
   ·cases h
   ·cases h;exact he
end
theorem rd_cut:∀ (j n i a k:Nat),i+j=7 ->n<128^(j+1) ->k<(form n).length ->rd i a ((form n).take k)=(0,0,3)
 |j,n,i,a,0,hj,hn,hk=>by rw [List.take_zero,Dh,if_pos (by omega)]
 |j,n,i,a,k+1,hj,hn,hk=>by
  by_cases g:n<128
  ·rw [rE g] at hk
   simp at hk
  ·match j,hj,hn with
   |0,hj,hn=>exact absurd hn (by simp;omega)
   |j+1,hj,hn=>
    rw [qx (by omega),List.length_cons] at hk;rw [qx (by omega),List.take_succ_cons,uG i a _ _ (by omega) (by rw [mU _ (by omega)];omega)];exact rd_cut j (n/128) (i+1) _ k (by omega) (by rw [Nat.div_lt_iff_lt_mul (by omega)];rw [Nat.pow_succ] at hn;exact hn) (by omega)
theorem read_cut{n k:Nat}(hn:n<72057594037927936)(hk:k<(form n).length):read ((form n).take k)=(0,0,3):=rd_cut 7 n 0 0 k rfl (by omega) hk
def jh(b:Bytes):mq Nat:=match read b with
 |(n,s,0)=> .ok n (b.drop s)
 |(_,_,e)=> .err e
theorem lN{b:Bytes}{n s:Nat}(h:read b=(n,s,0)):jh b= .ok n (b.drop s):=by
 unfold jh;rw [h]
 rfl
theorem iW{b:Bytes}{n s e:Nat}(h:read b=(n,s,e))(he:e≠0):jh b= .err e:=by
 unfold jh;rw [h]
 split
 ·rename_i g;cases g;exact absurd rfl he
 ·rename_i g;cases g;rfl
def iZ:iw Nat where
 put:=form
 get:=jh
 ok n:=n<72057594037927936
 fwd:=fun n more h=>by
  rw [lN (Kk n more h),List.drop_left]
 bwd:=fun {b n rest} h=>by
  rcases oL b with ⟨m,s,hr⟩|hr|hr
  ·rw [lN hr] at h
   cases h
   obtain ⟨h1,h2,-⟩:=qy hr;exact ⟨h2,by rw [h1,List.take_append_drop]⟩
  ·rw [iW hr (by decide)] at h;cases h
  ·rw [iW hr (by decide)] at h;cases h
 cut:=fun n k h hk=>iW (read_cut h hk) (by decide)
 bad:=fun {b e} h=>by
  rcases oL b with ⟨m,s,hr⟩|hr|hr
  ·rw [lN hr] at h;cases h
  ·rw [iW hr (by decide)] at h;cases h;decide
  ·rw [iW hr (by decide)] at h;cases h;decide
def mJ(b:Bytes):mq Int:=if b.length<8 then .err 3 else .ok (Pg (ival (b.take 8))) (b.drop 8)
theorem Po(xs:Bytes)(h:xs.length=8):ival xs<18446744073709551616:=by
 have:=Mr xs;rw [h] at this;omega
theorem Xp{u:Nat}(h:u<18446744073709551616): -9223372036854775808<=Pg u/\Pg u<=9223372036854775807:=by
 unfold Pg
 split<;>omega
theorem sgn_mod{u:Nat}(h:u<18446744073709551616):(Pg u%18446744073709551616).toNat=u:=by
 unfold Pg
 split<;>omega
theorem GH:∀ (xs:Bytes) (i:Nat) (hi:i<xs.length),by8 (ival xs/256^i%256)=xs[i]
 |c::r,0,_=>by
  have e:ival (c::r)=c.toNat+256*ival r:=by
   simp only [ival]
   try omega
  rw [e,Nat.pow_zero,Nat.div_one,Nat.add_mul_mod_self_left];have:=c.isLt;rw [Nat.mod_eq_of_lt (by omega)];exact TI c
 |c::r,i+1,hi=>by
  have e:ival (c::r)=c.toNat+256*ival r:=by
   simp only [ival]
   try omega
  have hc:=c.isLt;have h2:ival (c::r)/256^(i+1)=ival r/256^i:=by
   rw [e,Nat.pow_succ,Nat.mul_comm (256^i) 256,<-Nat.div_div_eq_div_mul]
   congr 1
   omega
  rw [h2];exact GH r i (by simpa using hi)
theorem TM{xs:Bytes}(h:xs.length=8):lI (Pg (ival xs))=xs:=by
 have hl:=Po xs h
 apply List.ext_getElem (by rw [h];rfl)
 intro i h1 h2;have key:∀ j,low (Pg (ival xs)) j=by8 (ival xs/256^j%256):=fun j=>by unfold low;rw [sgn_mod hl]
 have h8:i<8:=h1;rw [<-GH xs i h2,<-key]
 match i,h8 with
 |0,_=>rfl
 |1,_=>rfl
 |2,_=>rfl
 |3,_=>rfl
 |4,_=>rfl
 |5,_=>rfl
 |6,_=>rfl
 |7,_=>rfl
def qz:iw Int where
 put:=lI
 get:=mJ
 ok m:= -9223372036854775808<=m/\m<=9223372036854775807
 fwd:=fun m more h=>by
  have hl:(lI m).length=8:=mV m;unfold mJ;rw [if_neg (by rw [List.length_append,hl];omega)];have e1:(lI m++more).take 8=lI m:=List.take_left' hl;have e2:(lI m++more).drop 8=more:=List.drop_left' hl;rw [e1,e2,Xo m h.1 h.2]
 bwd:=fun {b m rest} h=>by
  unfold mJ at h
  split at h
  ·cases h
  ·rename_i g
   cases h
   have hl:(b.take 8).length=8:=by rw [List.length_take];omega
   exact ⟨Xp (Po _ hl),by rw [TM hl,List.take_append_drop]⟩
 cut:=fun m n h hn=>by
  unfold mJ;rw [if_pos (by rw [List.length_take];rw [mV] at hn ⊢;omega)]
 bad:=fun {b e} h=>by
  unfold mJ at h
  split at h
  ·cases h;decide
  ·cases h
def wO(t:iE):Bytes:=t.map UInt8.toBitVec
def Wm(xs:Bytes):iE:=xs.map UInt8.ofBitVec
theorem tsb_tbs(t:iE):Wm (wO t)=t:=by
 unfold Wm wO;rw [List.map_map,show (UInt8.ofBitVec∘UInt8.toBitVec)=id from rfl,List.map_id]
theorem tbs_tsb(xs:Bytes):wO (Wm xs)=xs:=by
 unfold Wm wO;rw [List.map_map,show (UInt8.toBitVec∘UInt8.ofBitVec)=id from rfl,List.map_id]
theorem oI(t:iE):(wO t).length=t.length:=by unfold wO;rw [List.length_map]
def uH(b:Bytes):mq iE:=(jh b).bind fun n r=>if 65536<n then .err 4 else if r.length<n then .err 3 else .ok (Wm (r.take n)) (r.drop n)
def iQ:iw iE where
 put t:=form t.length++wO t
 get:=uH
 ok t:=t.length<=65536
 fwd:=fun t more h=>by
  unfold uH;rw [List.append_assoc,show jh (form t.length++(wO t++more))= .ok t.length (wO t++more) from iZ.fwd t.length (wO t++more) (show t.length<72057594037927936 by omega)]
  show (if 65536<t.length then mq.err 4 else if (wO t++more).length<t.length then .err 3 else .ok (Wm ((wO t++more).take t.length)) ((wO t++more).drop t.length))=_
  rw [if_neg (by omega),if_neg (by rw [List.length_append,oI];omega)];have e1:(wO t++more).take t.length=wO t:=List.take_left' (oI t);have e2:(wO t++more).drop t.length=more:=List.drop_left' (oI t);rw [e1,e2,tsb_tbs]
 bwd:=fun {b t rest} h=>by
  obtain ⟨n,r,h1,h2⟩:=mq.bind_ok h;obtain ⟨o,e⟩:=iZ.bwd h1
  split at h2
  ·cases h2
  ·split at h2
   ·cases h2
   ·rename_i g1 g2
    cases h2
    have hl:(Wm (r.take n)).length=n:=by unfold Wm;rw [List.length_map,List.length_take];omega
    refine ⟨show (Wm (r.take n)).length<=65536 by omega,?_⟩
    show form (Wm (r.take n)).length++wO (Wm (r.take n))++r.drop n=b
    rw [hl,tbs_tsb,List.append_assoc,List.take_append_drop];exact e
 cut:=fun t n h hn=>by
  unfold uH;rw [List.length_append] at hn;rw [Bv]
  split
  ·rename_i g
   rw [show jh ((form t.length).take n)= .err 3 from iZ.cut t.length n (show t.length<72057594037927936 by omega) g]
   rfl
  ·rename_i g
   rw [show jh (form t.length++(wO t).take (n-(form t.length).length))= .ok t.length ((wO t).take (n-(form t.length).length)) from iZ.fwd t.length _ (show t.length<72057594037927936 by omega)]
   show (if 65536<t.length then mq.err 4 else if ((wO t).take (n-(form t.length).length)).length<t.length then .err 3 else _)=_
   rw [if_neg (by omega),if_pos (by rw [List.length_take,oI];rw [oI] at hn;omega)]
 bad:=fun {b e} h=>by
  rcases mq.lM h with h|⟨n,r,-,h⟩
  ·exact iZ.bad h
  ·split at h
   ·cases h;decide
   ·split at h
    ·cases h;decide
    ·cases h
def iw.list{α:Type}(c:iw α)(k:Nat)(e:Int)(hk:k<72057594037927936)(he:e≠0):iw (List α) where
 put l:=form l.length++iA c l
 get b:=(jh b).bind fun n r=>if k<n then .err e else Ao c n r
 ok l:=l.length<=k/\∀ a∈l,c.ok a
 fwd:=fun l more h=>by
  rw [List.append_assoc,show jh (form l.length++(iA c l++more))= .ok l.length (iA c l++more) from iZ.fwd l.length _ (show l.length<72057594037927936 by omega)]
  show (if k<l.length then mq.err e else Ao c l.length (iA c l++more))=_
  rw [if_neg (by omega),Pk c l more h.2]
 bwd:=fun {b l rest} h=>by
  obtain ⟨n,r,h1,h2⟩:=mq.bind_ok h;obtain ⟨o,e1⟩:=iZ.bwd h1
  split at h2
  ·cases h2
  ·rename_i g
   obtain ⟨g1,g2,g3⟩:=Pm c n h2;refine ⟨⟨by omega,g2⟩,?_⟩
   show form l.length++iA c l++rest=b
   rw [List.append_assoc,g3,g1];exact e1
 cut:=fun l n h hn=>by
  rw [List.length_append] at hn;rw [Bv]
  split
  ·rename_i g
   rw [show jh ((form l.length).take n)= .err 3 from iZ.cut l.length n (show l.length<72057594037927936 by omega) g]
   rfl
  ·rename_i g
   rw [show jh (form l.length++(iA c l).take (n-(form l.length).length))= .ok l.length ((iA c l).take (n-(form l.length).length)) from iZ.fwd l.length _ (show l.length<72057594037927936 by omega)]
   show (if k<l.length then mq.err e else Ao c l.length _)=_
   rw [if_neg (by omega),Pn c l _ h.2 (by omega)]
 bad:=fun {b x} h=>by
  rcases mq.lM h with h|⟨n,r,-,h⟩
  ·exact iZ.bad h
  ·split at h
   ·cases h;exact he
   ·exact Gz c n h
def kP:iw Int:=iZ.emb (fun n=>(n:Int)) (fun m=>m.toNat) fun a _=>rfl
theorem Pp(m:Int):kP.put m=form m.toNat:=rfl
theorem jN{m:Int}:kP.ok m↔0<=m/\m<72057594037927936:=by
 show (m.toNat<72057594037927936/\((m.toNat:Nat):Int)=m)↔_
 omega
end Go.Proofs.YtfgcodcablpdcaaGreat.Plain
set_option maxRecDepth 100000
set_option maxHeartbeats 64000000
namespace Go.Proofs.YtfgcodcablpdcaaGreat.By
open Go.Proofs.Tryz
open Go.RowKit Plain
def bv(c:BitVec 8):Value:= .int .u8 c.toNat
theorem bv_eq{n:Int}{c:BitVec 8}(h:n=c.toNat):Value.int .u8 n=bv c:=by unfold bv;rw [h]
def Seq(w:World)(v:Value)(xs:Bytes):Prop:=
 ∃ a cap,v= .slice a xs.length cap/\xs.length<=cap/\cap<=maxLen/\(a=none ->cap=0)/\
  (0<xs.length ->∃ b off,a=some ⟨b,off,none⟩/\∀ j,j<xs.length ->w.cell? ⟨b,off+j,none⟩=some (bv (xs.getD j 0#8)))
theorem Seq.nil(w:World):Seq w (.slice none 0 0) []:=⟨none,0,rfl,Nat.zero_le _,Nat.zero_le _,fun _=>rfl,fun h=>absurd h (by simp)⟩
theorem Seq.empty(w:World)(a:Addr)(cap:Nat)(h:cap<=maxLen):Seq w (.slice (some a) 0 cap) []:=⟨some a,cap,rfl,Nat.zero_le _,h,(by simp),fun h=>absurd h (by simp)⟩
theorem Seq.of_cell{w w':World}{v:Value}{xs:Bytes}(h:Seq w v xs)(hc:∀ a,w'.cell? a=w.cell? a):Seq w' v xs:=by
 obtain ⟨a,cap,rfl,h1,h2,h0,h3⟩:=h;refine ⟨a,cap,rfl,h1,h2,h0,fun hp=> ?_⟩;obtain ⟨b,off,rfl,g⟩:=h3 hp;exact ⟨b,off,rfl,fun j hj=>(hc _).trans (g j hj)⟩
theorem Seq.below'{N:Nat}{w w':World}{v:Value}{xs:Bytes}(h:Seq w v xs)(hb:Below N w w')(hN:w.heap.size<=N):Seq w' v xs:=by
 obtain ⟨a,cap,rfl,h1,h2,h0,h3⟩:=h;refine ⟨a,cap,rfl,h1,h2,h0,fun hp=> ?_⟩;obtain ⟨b,off,rfl,hc⟩:=h3 hp;refine ⟨b,off,rfl,fun j hj=> ?_⟩;have hlt:b<w.heap.size:=World.block_lt_of_cell? w ⟨b,off+j,none⟩ (hc j hj);exact (hb.cell (p:=⟨b,off+j,none⟩) (show b<N by omega)).trans (hc j hj)
theorem Seq.below{w w':World}{v:Value}{xs:Bytes}(h:Seq w v xs)(hb:Below w.heap.size w w'):Seq w' v xs:=Seq.below' h hb (Nat.le_refl _)
theorem Seq.iB{w:World}{v:Value}{xs:Bytes}(h:Seq w v xs)(o:Obj):Seq (w.alloc o) v xs:=h.below ((Below.refl _ _).alloc (Nat.le_refl _) _)
theorem Seq.parts{w:World}{v:Value}{xs:Bytes}(h:Seq w v xs):∃ a cap,v= .slice a xs.length cap/\xs.length<=cap/\cap<=maxLen/\(a=none ->cap=0)/\Seq w (.slice a xs.length cap) xs:=by
 have h':=h;obtain ⟨a,cap,rfl,h1,h2,h0,h3⟩:=h;exact ⟨a,cap,rfl,h1,h2,h0,h'⟩
theorem Seq.spot{w:World}{v:Value}{xs:Bytes}(h:Seq w v xs)(hp:0<xs.length):∃ b o cap,v= .slice (some ⟨b,o,none⟩) xs.length cap/\xs.length<=cap/\cap<=maxLen/\Seq w (.slice (some ⟨b,o,none⟩) xs.length cap) xs/\∀ j,j<xs.length ->w.cell? ⟨b,o+j,none⟩=some (bv (xs.getD j 0#8)):=by
 have h':=h;obtain ⟨a,cap,rfl,h1,h2,h0,h3⟩:=h;obtain ⟨b,o,rfl,hc⟩:=h3 hp;exact ⟨b,o,cap,rfl,h1,h2,h',hc⟩
theorem Seq.first{w:World}{a:Option Addr}{n cap:Nat}{xs:Bytes}(h:Seq w (.slice a n cap) xs)(k:Nat)(hk:k<=xs.length):Seq w (.slice a k cap) (xs.take k):=by
 obtain ⟨a',cap',hv,h1,h2,h0,h3⟩:=h;simp only [Value.slice.injEq] at hv
 obtain ⟨rfl,rfl,rfl⟩:=hv;have hl:(xs.take k).length=k:=by rw [List.length_take];omega
 refine ⟨a,cap,by rw [hl],by omega,h2,h0,fun hp=> ?_⟩;obtain ⟨b,off,rfl,hc⟩:=h3 (by omega);refine ⟨b,off,rfl,fun j hj=> ?_⟩;rw [hc j (by omega)];simp [List.getD,show j<k by omega]
theorem Seq.from{w:World}{b o n cap:Nat}{xs:Bytes}(h:Seq w (.slice (some ⟨b,o,none⟩) n cap) xs)(k:Nat)(hk:k<=xs.length):Seq w (.slice (some ⟨b,if cap=k then o else o+k,none⟩) (n-k) (cap-k)) (xs.drop k):=by
 obtain ⟨a',cap',hv,h1,h2,h0,h3⟩:=h;simp only [Value.slice.injEq] at hv
 obtain ⟨rfl,rfl,rfl⟩:=hv;refine ⟨_,cap-k,by rw [List.length_drop],by rw [List.length_drop];omega,by omega,(by simp),fun hp=> ?_⟩;rw [List.length_drop] at hp;rw [if_neg (by omega)];obtain ⟨b',o',he,hc⟩:=h3 (by omega)
 cases he
 refine ⟨b,o+k,rfl,fun j hj=> ?_⟩;rw [List.length_drop] at hj;have:=hc (k+j) (by omega);rw [show o+k+j=o+(k+j) by omega,this];simp [List.getD]
def jv(B:Nat)(w:World)(v:Value)(xs:Bytes):Prop:=w.ownsRow B 5 1 v xs.length (xs.map bv)
theorem jv.nil(B:Nat)(w:World):jv B w (.slice none 0 0) []:=World.ownsRow_nil _ _ _ _
theorem getD_map(xs:Bytes)(j:Nat)(hj:j<xs.length):(xs.map bv)[j]? =some (bv (xs.getD j 0#8)):=by
 simp [List.getD,List.getElem?_eq_getElem hj]
theorem jv.seq{B:Nat}{w:World}{v:Value}{xs:Bytes}(h:jv B w v xs):Seq w v xs:=by
 have h':=h
 rcases h.2 with ⟨rfl,hn⟩|⟨g,cap,cur,rfl,hb,hg,hnc,hcm,hcs,htake⟩
 ·obtain rfl:xs=[]:=List.eq_nil_of_length_eq_zero hn
  exact Seq.nil w
 ·refine ⟨_,cap,rfl,hnc,hcm,(by simp),fun hp=>⟨g,0,rfl,fun j hj=> ?_⟩⟩
  have:=World.ownsRow.cellAt h' j (by omega);rw [Nat.zero_add,this,getD_map xs j hj]
theorem jv.parts{B:Nat}{w:World}{v:Value}{xs:Bytes}(h:jv B w v xs):∃ a cap,v= .slice a xs.length cap/\xs.length<=cap/\cap<=maxLen/\jv B w (.slice a xs.length cap) xs/\(a=none ->cap=0):=by
 obtain ⟨a,cap,rfl,h1,h2,h0,hs⟩:=h.seq.parts;exact ⟨a,cap,rfl,h1,h2,h,h0⟩
theorem jv.lt{B:Nat}{w:World}{v:Value}{xs:Bytes}(h:jv B w v xs):∀ k,v.ownBlock=some k ->B<=k/\k<w.heap.size:=World.ownsRow.lt h
theorem jv.alloc{B:Nat}{w:World}{v:Value}{xs:Bytes}(h:jv B w v xs)(o:Obj):jv B (w.alloc o) v xs:=World.ownsRow.alloc h o
theorem jv.mono{B C:Nat}{w:World}{v:Value}{xs:Bytes}(h:jv B w v xs)(hc:C<=B):jv C w v xs:=by
 refine ⟨h.1,?_⟩
 rcases h.2 with hn|⟨g,cap,cur,hv,hb,hg⟩
 ·exact .inl hn
 ·exact .inr ⟨g,cap,cur,hv,by omega,hg⟩
theorem jv.below{B N:Nat}{w w':World}{v:Value}{xs:Bytes}(h:jv B w v xs)(hb:Below N w w')(hN:w.heap.size<=N):jv B w' v xs:=by
 refine ⟨h.1,?_⟩
 rcases h.2 with hn|⟨g,cap,cur,hv,hb',hg,hr⟩
 ·exact .inl hn
 ·have hlt:g<w.heap.size:=(Array.getElem?_eq_some_iff.1 hg).1
  exact .inr ⟨g,cap,cur,hv,hb',(hb.block g (by omega)).trans hg,hr⟩
theorem jv.empty(w:World)(B:Nat)(hB:B<=w.heap.size):jv B (w.alloc (.cells #[] 5)) (.slice (some ⟨w.heap.size,0,none⟩) 0 0) []:=
 World.ownsRow_lit w #[] 0 hB (Nat.zero_le _) rfl
theorem jv.one(w:World)(B:Nat)(x:BitVec 8)(hB:B<=w.heap.size):jv B (w.alloc (.cells #[bv x] 5)) (.slice (some ⟨w.heap.size,0,none⟩) 1 1) [x]:=
 World.ownsRow_lit w #[bv x] 1 hB (by unfold maxLen;omega) rfl
theorem Seq.one(w:World)(n:Int)(x:BitVec 8)(h:n=x.toNat):Seq (w.alloc (.cells #[.int .u8 n] 5)) (.slice (some ⟨w.heap.size,0,none⟩) 1 1) [x]:=by
 rw [bv_eq h];exact (jv.one w w.heap.size x (Nat.le_refl _)).seq
def Made(w:World)(xs:Bytes)(e:Ending)(w':World):Prop:=∃ v,e= .returned v/\jv w.heap.size w' v xs/\Below w.heap.size w w'
theorem info2':(prog.info? 5).map (fun i=>(i.zero,i.size,i.bytes))=some (some (.int .u8 0),1,1):=by kernel_rfl
theorem JQ(ys:Bytes):∀ u∈ys.map bv,u.oneCell'=true:=by
 intro u hu;obtain ⟨c,-,rfl⟩:=List.mem_map.1 hu
 rfl
theorem iq{w:World}{ops:Array Oper}{rest:List Oper}{o:Oper}{act:Act}{Q:Exit ->Act ->World ->Prop}(hgd:o.guard=none)(s x:Operand)
  (ho:o.op= .call {callee:= .builtin .append,args:=#[s,x],argTypes:=#[42,42]}) (B:Nat) {v u:Value} {xs ys:Bytes}
  (hs:act.eval s=v) (hown:jv B w v xs) (hx:act.eval x=u) (hseq:Seq w u ys) (hlen:xs.length+ys.length<=1073741824) (hbase:B<=w.heap.size)
  (h:∀ v' w',jv B w' v' (xs++ys) ->w.grownBy w' v.ownBlock ->(v'.ownBlock=v.ownBlock\/v'.ownBlock=some w.heap.size) ->wpList prog ops Q rest (act.put o.dst v') w'):wpList prog ops Q (o::rest) act w:=by
 obtain ⟨i0,hi,hz0,hz1,hz2⟩:=info_parts info2';obtain ⟨a,cap,rfl,h1,h2,h0,h3⟩:=hseq
 cases a with
 |none=>
  obtain rfl:=h0 rfl;obtain rfl:ys=[]:=List.eq_nil_of_length_eq_zero (by omega);refine wpList_append_own_none hgd s x 42 ho B 5 i0 1 underlying42 hi v _ _ hs hown hx (h v w ?_ (World.grownBy.refl _ _) (.inl rfl));rw [List.append_nil];exact hown
 |some ad=>
  refine wpList_append_own_at _ hgd s x 42 ho B 5 i0 (.int .u8 0) 1 1 underlying42 hi hz0 hz1 hz2 rfl (by decide) v _ _ hs hown ad ys.length cap (ys.map bv) hx (by simp) ?_ (JQ _) (by unfold maxLen;omega) (by omega) hbase ?_
  ·intro j u hu
   have hj:j<ys.length:=by
    have:=(List.getElem?_eq_some_iff.1 hu).1
    simpa using this
   obtain ⟨b,off,he,hc⟩:=h3 (by omega)
   cases he
   rw [getD_map ys j hj] at hu
   cases hu
   rw [Addr.add_lit];exact hc j hj
  ·intro v' w' hown' hg _ hat
   exact h v' w' (by unfold jv;rw [List.length_append,List.map_append];exact hown') hg hat
theorem seq_text(w:World)(s:ByteArray)(hs:s.size<=1073741824)(cap:Nat)(hc:s.size<=cap)(hm:cap<=maxLen)(fr:Nat×Nat):Seq (w.drew.alloc (.cells (bytesRow s cap) 5 fr)) (.slice (some ⟨w.heap.size,0,none⟩) s.size cap) (bs s):=by
 refine ⟨_,cap,by rw [Ms],by rw [Ms];exact hc,hm,(by simp),fun hp=>⟨w.heap.size,0,rfl,fun j hj=> ?_⟩⟩;rw [Ms] at hj;have hj':j<s.data.size:=hj;rw [Nat.zero_add];have:=World.cell?_alloc_mark w.drew (bytesRow s cap) 5 fr j;refine this.trans ?_;rw [bytesRow_at s cap j hj'];unfold bv bs;simp only [List.getD,List.getElem?_map,Array.getElem?_toList,Array.getElem?_eq_getElem hj',Option.map_some,Option.getD_some]
 rfl
theorem Xn(w:World)(s:ByteArray):(convert 9 42 (.string s)).run prog w= .ok (.slice (some ⟨w.heap.size,0,none⟩) s.size (grownCap w s.size 0 5))
   (w.drew.alloc (.cells (bytesRow s (grownCap w s.size 0 5)) 5 ((bytesRow s (grownCap w s.size 0 5)).size,(bytesRow s (grownCap w s.size 0 5)).size+1))):=
 run_bytes_of_string w 9 42 5 s underlying9 underlying42 underlying5
theorem sb_nums(xs:Bytes):strOfNums (xs.map fun c=>(c.toNat:Int))=sb xs:=by
 unfold strOfNums sb;rw [List.map_map]
 congr 2
 apply List.map_congr_left
 intro c _
 apply UInt8.toNat_inj.1
 have:=c.isLt;simp
theorem vk{w:World}{v:Value}{xs:Bytes}(h:Seq w v xs):(convert 42 9 v).run prog w= .ok (.string (sb xs)) w:=by
 obtain ⟨a,cap,rfl,h1,h2,h0,h3⟩:=h
 by_cases hp:0<xs.length
 ·obtain ⟨b,off,rfl,hc⟩:=h3 hp
  rw [<-sb_nums];refine run_convert_bytes_arg w 42 5 underlying42 underlying5 b off xs.length cap _ (by simp) (fun i hi=> ?_) 9 underlying9;rw [hc i hi];simp [bv,List.getD,hi]
 ·obtain rfl:xs=[]:=List.eq_nil_of_length_eq_zero (by omega)
  cases a with
  |none=>exact run_convert_bytes_nil w 42 5 underlying42 underlying5 0 cap 9 underlying9
  |some ad=>exact run_convert_bytes_back w 42 9 5 ad cap [] underlying42 underlying5 underlying9 (by simp)
theorem tF{P:Program}{f:FuncId}{args:Array Value}{w:World}{n:Nat}{v:Value}
  (h:Calls P f args (w.drewN n) fun e w'=>e= .returned v/\w.drewN n=w'):Calls P f args (w.drewN n) fun e w''=>e= .returned v/\∃ m,w''=w.drewN m:=
 h.mono fun _ _ ⟨he,hm⟩=>⟨he,n,hm.symm⟩
theorem below_drewN{B:Nat}{w w':World}(h:Below B w w'):∀ n,Below B w (w'.drewN n)
 |0=>h
 |n+1=>(below_drewN h n).drew
def flat(f:Nat ->Bytes):Nat ->Bytes
 |0=>[]
 |k+1=>flat f k++f k
theorem Bw(f:Nat ->Bytes)(k n:Nat)(h:k<=n):(flat f k).length<=(flat f n).length:=by
 induction n with
 |zero=>
  obtain rfl:k=0:=by omega
  exact Nat.le_refl _
 |succ n ih=>
  by_cases e:k=n+1
  ·subst e;exact Nat.le_refl _
  ·have:=ih (by omega)
   rw [flat,List.length_append];omega
theorem grow_nil(n:Nat)(hn:n<=1073741824)(w:World):Calls prog 178 #[.slice none 0 0,.int .i64 n] w (Made w []):=by
 obtain ⟨i0,hi,hz0,hz1,hz2⟩:=info_parts info2'
 by_cases h0:n=0
 ·subst h0
  go_enter func178,ntmps178
  go_wp2_with fail
  go_ret
  exact ⟨_,rfl,jv.nil _ _,Below.refl _ _⟩
 ·have hp:0<n:=by omega
  have hr:=Lib.run_append_nil_zeros (P:=prog) w 42 3 42 5 i0 (.int .u8 0) .i64 .i64 underlying42 underlying3 hi hz0 n hp (by omega) (by omega) (by rw [hz2];omega);have hge:=grownCap_ge w n 0 5;have hcm:grownCap w n 0 5<=maxLen:=grownCap_le_maxLen w n 0 5 (by unfold maxLen;omega);have hO:jv w.heap.size (w.drew.alloc (.cells (Builtin.zeroCells (Value.int .u8 0).cells n++Builtin.zeroCells (Value.int .u8 0).cells (grownCap w n 0 5-n)) 5)) (.slice (some ⟨w.heap.size,0,none⟩) 0 (grownCap w n 0 5)) []:=by
   refine World.ownsRow_made w.drew _ _ (Nat.le_refl _) hcm ?_;have hz1:(Value.int IntKind.u8 0).cells.size=1:=rfl;simp only [Array.size_append,size_zeroCells,hz1]
   omega
  have hB:Below w.heap.size w (w.drew.alloc (.cells (Builtin.zeroCells (Value.int .u8 0).cells n++Builtin.zeroCells (Value.int .u8 0).cells (grownCap w n 0 5-n)) 5)):=(Below.refl _ _).drew.alloc (Nat.le_refl _) _;have HO:=Lib.hid hO;have HB:=Lib.hid hB;have HR:=Lib.hid hr;have hm:maxLen=9223372036854775807:=rfl;rw [hm] at hcm;clear hO hB hr hz0 hz1 hz2 hi hm h0;generalize hG:grownCap w n 0 5=G at*;clear hG;go_enter func178,ntmps178
  go_wp2_with (at_builtin;refine Lib.wpList_append_run _ rfl _ _ _ _ rfl _ _ rfl rfl _ _ HR.out ?_)
  go_ret
  exact ⟨_,rfl,HO.out,HB.out⟩
theorem wN{a:Addr}{n cap:Nat}{xs:Bytes}{w:World}(hs:Seq w (.slice (some a) n cap) xs)(hlen:xs.length<=1000000000):
  Calls prog 96 #[.slice (some a) n cap] w (Made w xs):=by
 have hga:Below w.heap.size w (w.alloc (.cells #[] 5)):=(Below.refl _ _).alloc (Nat.le_refl _) _;have S1:=Lib.hid (Seq.below hs hga);have q22:∀ (w:World) (a:Option Addr) (n c n' c':Nat),(binOp .eql 42 (.slice a n c) (.slice none n' c')).run prog w= .ok (.bool a.isNone) w:=fun w a n c n' c'=>Lib.run_eql_slice_nil w _ _ a n c n' c' underlying42
 clear hs;go_enter func96,ntmps96
 go_wp2_with (at_builtin;refine iq rfl (.tmp 5) (.tmp 6) rfl w.heap.size rfl (jv.empty w _ (Nat.le_refl _)) rfl S1.out (by simp;omega) (by simp) ?_)
 intro v1 W3 hv1 hg3 _;have hgb:Below w.heap.size w W3:=hga.grown hg3 (by simp) (by intro k hk;cases hk;exact Nat.le_refl _);have V:=Lib.hid hv1;clear hg3 hga hv1;go_wp2_with fail
 go_ret
 exact ⟨_,rfl,V.out,hgb⟩
theorem GI(b n c:Nat)(vs:Nat ->Value)(f:Nat ->Bytes)(w:World)(hn:n<=1000)(hc:∀ j,j<n ->w.cell? ⟨b,j,none⟩=some (vs j))(hs:∀ j,j<n ->Seq w (vs j) (f j))(hlen:(flat f n).length<=1000000000):
  Calls prog 102 #[.slice (some ⟨b,0,none⟩) n c] w (Made w (flat f n)):=by
 have HC:=Lib.hid hc;have HS:=Lib.hid hs;clear hc hs;go_enter func102,ntmps102
 go_wp2_with fail
 go_loop [3,11] (fun s i=>∃ k:Nat,k<=n/\i= .int .i64 k/\s= .int .i64 (flat f k).length) (fun _ i=>n-(intOf i).toNat)
 case atStart=>exact ⟨0,Nat.zero_le _,rfl,rfl⟩
 case round=>
  obtain ⟨k,hk,rfl,rfl⟩:=hrel;have hl:=Bw f k n hk
  by_cases hlt:k<n
  ·have hcell:=HC.out k hlt
   obtain ⟨a,cap,hv,h1,h2,h0,hs⟩:=(HS.out k hlt).parts;rw [hv] at hcell;have hl':=Bw f (k+1) n (by omega);have e:(flat f (k+1)).length=(flat f k).length+(f k).length:=by rw [flat,List.length_append]
   have E:=Lib.hid e;have hl2:(flat f k).length+(f k).length<=1000000000:=by omega
   clear h0 hs hv e hl';go_wp2_with fail
   go_round
   case rel=>exact ⟨k+1,by omega,by go_num,by rw [E.out];go_num⟩
   case measure=>simp [intOf];omega
  ·obtain rfl:k=n:=by omega
   go_wp2_with fail
   refine (grow_nil _ (by omega) _).mono ?_;rintro e w1 ⟨v1,rfl,ho1,hb1⟩;have O1:=Lib.hid ho1;clear ho1;go_wp2_with fail
   go_loopw [6,27] (fun v i wr=>∃ j:Nat,j<=k/\i= .int .i64 j/\jv w.heap.size wr v (flat f j)/\Below w.heap.size w wr) (fun _ i _=>k-(intOf i).toNat)
   case atStart=>exact ⟨0,Nat.zero_le _,rfl,O1.out,hb1⟩
   case round=>
    obtain ⟨j,hj,rfl,ho,hb⟩:=hrel;have hl3:=Bw f j k hj
    by_cases hlt:j<k
    ·have hcell0:=HC.out j hlt
     have hblt:b<w.heap.size:=World.block_lt_of_cell? w ⟨b,j,none⟩ hcell0;obtain ⟨a,cap,hv,h1,h2,h0,hs⟩:=(HS.out j hlt).parts;rw [hv] at hcell0;have hcell:=(hb.cell (p:=⟨b,j,none⟩) hblt).trans hcell0;have hl':=Bw f (j+1) k (by omega);have E:Hid (flat f (j+1)=flat f j++f j):=Lib.hid rfl;have hl2:(flat f j).length+(f j).length<=1000000000:=by rw [E.out,List.length_append] at hl';omega
     have hsz:=hb.size;have S1:=Lib.hid (Seq.below hs hb);have O2:=Lib.hid ho;have B2:=Lib.hid hb;clear h0 hs hv hl' ho hb hcell0;go_wp2_with (at_builtin;refine iq rfl (.tmp 31) (.tmp 32) rfl w.heap.size rfl O2.out rfl S1.out (by omega) (by omega) ?_)
     intro v2 w2 ho2 hg2 _;have hb2:Below w.heap.size w w2:=B2.out.grown hg2 (by omega) (fun k hk=>(O2.out.lt k hk).1);have O3:=Lib.hid ho2;clear ho2 hg2 hcell;go_wp2_with fail
     go_roundw
     case rel=>exact ⟨j+1,by omega,by go_num,by rw [E.out];exact O3.out,hb2⟩
     case measure=>simp [intOf];omega
    ·obtain rfl:j=k:=by omega
     have O2:=Lib.hid ho;clear ho;go_wp2_with fail
     go_ret
     exact ⟨_,rfl,O2.out,hb⟩
theorem AO(b c:Nat){u v:Value}{xs ys:Bytes}(w:World)(h0:w.cell? ⟨b,0,none⟩=some u)(h1:w.cell? ⟨b,1,none⟩=some v)(hu:Seq w u xs)(hv:Seq w v ys)(hlen:xs.length+ys.length<=1000000000):
  Calls prog 102 #[.slice (some ⟨b,0,none⟩) 2 c] w (Made w (xs++ys)):=by
 have h:=GI b 2 c (fun j=>if j=0 then u else v) (fun j=>if j=0 then xs else ys) w (by omega)
  (fun j hj=>by match j,hj with|0,_=>exact h0|1,_=>exact h1) (fun j hj=>by match j,hj with|0,_=>exact hu|1,_=>exact hv) (by simp [flat];omega)
 simpa [flat] using h
theorem Mt(b c:Nat){u v x:Value}{xs ys zs:Bytes}(w:World)(h0:w.cell? ⟨b,0,none⟩=some u)(h1:w.cell? ⟨b,1,none⟩=some v)(h2:w.cell? ⟨b,2,none⟩=some x)(hu:Seq w u xs)(hv:Seq w v ys)(hx:Seq w x zs)(hlen:xs.length+ys.length+zs.length<=1000000000):
  Calls prog 102 #[.slice (some ⟨b,0,none⟩) 3 c] w (Made w (xs++(ys++zs))):=by
 have h:=GI b 3 c (fun j=>if j=0 then u else if j=1 then v else x) (fun j=>if j=0 then xs else if j=1 then ys else zs) w (by omega)
  (fun j hj=>by match j,hj with|0,_=>exact h0|1,_=>exact h1|2,_=>exact h2) (fun j hj=>by match j,hj with|0,_=>exact hu|1,_=>exact hv|2,_=>exact hx) (by simp [flat];omega)
 simpa [flat,List.append_assoc] using h
end Go.Proofs.YtfgcodcablpdcaaGreat.By