import Derived.Test.YtfgcodcablpdcaaGreatByLibs
import Derived.Deep.RegionHeld3
set_option linter.unusedVariables false
set_option maxRecDepth 100000
set_option maxHeartbeats 64000000
namespace Go.Proofs.YtfgcodcablpdcaaGreat.By
open Go.Proofs.Tryz
open Go.RowKit Plain
theorem or128(n:Nat):bits .or .u8 ((n:Int)%256) 128=((by8 (n%128+128)).toNat:Int):=by
 rw [mU _ (by omega),show ((n:Int)%256)=((n%256:Nat):Int) by omega];refine (u8_or_nat (n%256) 128 (by omega) (by omega)).trans ?_;have h:∀ x:Fin 256,x.val|||128=x.val%128+128:=by decide+kernel
 have:=h ⟨n%256,by omega⟩;simp only at this
 rw [this]
 congr 2
 omega
theorem Eu(n:Nat)(hn:n<72057594037927936)(w:World):Calls prog 103 #[.int .i64 n] w (Made w (form n)):=by
 have hl:=gP n hn;have HF:∃ z,Hid (form n=z):=⟨_,Lib.hid rfl⟩;have HL:=Lib.hid hl;obtain ⟨z,HF⟩:=HF;rw [HF.out] at hl;rw [HF.out];go_enter func103,ntmps103
 go_wp2_with fail
 go_loopw [0,3] (fun a v wr=>∃ m:Nat,m<72057594037927936/\a= .int .i64 m/\∃ xs,jv w.heap.size wr v xs/\xs++form m=z/\Below w.heap.size w wr) (fun a _ _=>(intOf a).toNat)
 case atStart=>exact ⟨n,hn,rfl,[],jv.nil _ _,(List.nil_append _).trans HF.out,Below.refl _ _⟩
 case round=>
  obtain ⟨m,hm,rfl,xs,ho,hz,hb⟩:=hrel;have hxl:xs.length<=8:=by have:=congrArg List.length hz;rw [List.length_append] at this;omega
  have hsz:=hb.size;have O1:=Lib.hid ho;have B1:=Lib.hid hb;have Z1:=Lib.hid hz;clear ho hb hz
  by_cases hlt:128<=m
  ·have e1:=or128 m
   have FS:=Lib.hid (qx hlt);generalize by8 (m%128+128)=c at*;have hc:=c.isLt;go_wp2_with (at_builtin;refine iq rfl (.tmp 6) (.tmp 10) rfl w.heap.size rfl (O1.out.alloc _) rfl (Seq.one _ _ c rfl) (by simp;omega) (by simp;omega) ?_)
   intro v2 w2 ho2 hg2 _;have hb2:Below w.heap.size w w2:=(B1.out.alloc (by omega) _).grown hg2 (by simp;omega) (fun k hk=>(O1.out.lt k hk).1);have O3:=Lib.hid ho2;clear ho2 hg2 e1;go_wp2_with fail
   go_roundw
   case rel=>exact ⟨m/128,by omega,by go_num,xs++[c],O3.out,by rw [List.append_assoc,List.singleton_append,<-FS.out];exact Z1.out,hb2⟩
   case measure=>simp [intOf];omega
  ·have FS:=Lib.hid (rE (show m<128 by omega))
   have hc:(m:Int)=(by8 m).toNat:=by rw [mU m (by omega)]
   have HC:=Lib.hid hc;clear hc;go_wp2_with (at_builtin;refine iq rfl (.tmp 14) (.tmp 17) rfl w.heap.size rfl (O1.out.alloc _) rfl (Seq.one _ _ (by8 m) HC.out) (by simp;omega) (by simp;omega) ?_)
   intro v2 w2 ho2 hg2 _;have hb2:Below w.heap.size w w2:=(B1.out.alloc (by omega) _).grown hg2 (by simp;omega) (fun k hk=>(O1.out.lt k hk).1);have O3:=Lib.hid ho2;clear ho2 hg2;go_wp2_with fail
   go_ret
   refine ⟨_,rfl,?_,hb2⟩;rw [<-Z1.out,FS.out];exact O3.out
def MadeT(w:World)(xs:Bytes)(e:Ending)(w':World):Prop:=∃ v,e= .returned (.tuple #[v,.int .i64 0])/\jv w.heap.size w' v xs/\Below w.heap.size w w'
theorem zF{v:Value}{xs:Bytes}{w:World}(hs:Seq w v xs)(hlen:xs.length<=900000000)(n:Nat)(hn:n<72057594037927936):
  Calls prog 46 #[v,.int .i64 n] w (MadeT w (xs++form n)):=by
 have hl:=gP n hn;have K1:=Lib.hid (Eu n hn);have S0:=Lib.hid hs;obtain ⟨a,cap,rfl,h1,h2,h0,-⟩:=hs.parts;clear hs h0;generalize form n=z at*;go_enter func46,ntmps46
 go_wp2_with fail
 refine (K1.out _).mono ?_;rintro e w1 ⟨v1,rfl,ho1,hb1⟩;obtain ⟨a1,c1,rfl,-,-,ho1,-⟩:=ho1.parts;have O1:=Lib.hid ho1;have B1:=Lib.hid hb1;clear ho1;go_wp2_with fail
 refine (AO _ _ _ (cell_of_row _ _ 0 _ 42 (0,0) (heap_alloc_new w1 _)) (cell_of_row _ _ 1 _ 42 (0,0) (heap_alloc_new w1 _)) ((S0.out.below B1.out).iB _) (O1.out.seq.iB _) (by omega)).mono ?_;rintro e w2 ⟨v2,rfl,ho2,hb2⟩;have hbe:Below w.heap.size w w2:=(B1.out.alloc B1.out.size _).trans (hb2.mono (by have:=B1.out.size;simp;omega));have O2:=Lib.hid (ho2.mono (by have:=B1.out.size;simp;omega:w.heap.size<=_));clear ho2 hb2;go_wp2_with fail
 go_ret2
 exact ⟨_,rfl,O2.out,hbe⟩
theorem Tw(v:Value)(w:World)(n:Int)(h1: -9223372036854775808<=n)(h2:n<=9223372036854775807)(hn:n<0\/72057594037927935<n):
  Calls prog 46 #[v,.int .i64 n] w fun e w'=>e= .returned (.tuple #[.slice none 0 0,.int .i64 1])/\w=w':=by
 rcases hn with hn|hn
 ·go_enter func46,ntmps46
  go_wp2_with fail
  go_ret2
  exact ⟨rfl,rfl⟩
 ·have hn':72057594037927936<=n:=by omega
  go_enter func46,ntmps46
  go_wp2_with fail
  go_ret2
  exact ⟨rfl,rfl⟩
theorem Kj(c:BitVec 8):bits .andNot .u8 (c.toNat:Int) 128=((c.toNat%128:Nat):Int):=by
 have hc:=c.isLt;refine (u8_andNot_nat c.toNat 128 hc (by omega)).trans ?_;rw [show 255-128=127 from rfl,nat_mask7]
theorem Tx(a b:Nat)(ha:a<2^63)(hb:b<2^63):bits .or .i64 (a:Int) (b:Int)=((a|||b:Nat):Int):=by
 show IntKind.i64.wrap ((BitVec.ofInt 64 (a:Int)|||BitVec.ofInt 64 (b:Int)).toNat:Int)=_
 have hab:a|||b<2^63:=Nat.or_lt_two_pow ha hb
 rw [BitVec.toNat_or,BitVec.toNat_ofInt,BitVec.toNat_ofInt,IntKind.wrap_i64];rw [show ((a:Int)%(2^64:Nat)).toNat=a by omega,show ((b:Int)%(2^64:Nat)).toNat=b by omega];omega
theorem or_next(a x i:Nat)(hi:i<8)(ha:a<128^i)(hx:x<128):bits .or .i64 (a:Int) ((x*128^i:Nat):Int)=((a+x*128^i:Nat):Int):=by
 have e:128^i=2^(7*i):=by rw [Nat.pow_mul]
 have h1:128^i<=128^7:=Nat.pow_le_pow_right (by omega) (by omega);have h2:x*128^i<=127*128^7:=Nat.mul_le_mul (by omega) h1;rw [Tx _ _ (by omega) (by omega),Nat.or_comm,nat_join (7*i) _ _ (by rw [e];exact Nat.mul_mod_left _ _) (by rw [<-e];exact ha),Nat.add_comm]
theorem zG(a k x:Nat)(hk:k<8)(ha:a<128^k):bits .or .i64 (a:Int) (wrap64 ((x:Int)%128*2^(7*k)))=((a+x%128*128^k:Nat):Int):=by
 have h1:128^k<=128^7:=Nat.pow_le_pow_right (by omega) (by omega);have h2:x%128*128^k<=127*128^7:=Nat.mul_le_mul (by omega) h1;have e:((x:Int)%128*2^(7*k))=((x%128*128^k:Nat):Int):=by
  rw [Int.natCast_mul,Int.natCast_pow,Int.natCast_emod,Int.pow_mul]
  rfl
 rw [e,<-or_next a (x%128) k hk ha (by omega)]
 congr 1
 unfold wrap64;omega
theorem Wd(a k x:Nat)(ha:a<128^k)(hx:x<128):a+x*128^k<128^(k+1):=by
 have h:x*128^k<=127*128^k:=Nat.mul_le_mul (by omega) (Nat.le_refl _);rw [Nat.pow_succ];omega
def RdT(r:Nat×Nat×Nat):Ending:= .returned (.tuple #[.int .i64 r.1,.int .i64 r.2.1,.int .i64 r.2.2])
theorem rF{v:Value}{xs:Bytes}{w:World}(hs:Seq w v xs):
  Calls prog 95 #[v] w fun e w'=>e=RdT (read xs)/\w=w':=by
 by_cases hp:0<xs.length
 ·obtain ⟨b,o,cap,rfl,h1,h2,-,hc⟩:=hs.spot hp
  have HC:=Lib.hid hc;have hm:maxLen=9223372036854775807:=rfl;rw [hm] at h2;have hci:(xs.length:Int)<=cap:=by omega
  have E:Hid (rd 0 0 (xs.drop 0)=read xs):=Lib.hid rfl;generalize read xs=z at*;obtain ⟨m,c⟩:∃ m,(xs.length<=8/\xs.length=m)\/(¬ xs.length<=8/\m=8):=by
   by_cases h:xs.length<=8
   ·exact ⟨_,.inl ⟨h,rfl⟩⟩
   ·exact ⟨8,.inr ⟨h,rfl⟩⟩
  have hD:∀ k,k<xs.length ->xs.drop k=xs.getD k 0#8::xs.drop (k+1):=fun k hk=>by
   rw [List.drop_eq_getElem_cons hk];simp [List.getD,hk]
  have HD:=Lib.hid hD;have HE:Hid (xs.drop xs.length=[]):=Lib.hid List.drop_length;clear hs hc hm hD;generalize hL:xs.length=len at*;clear hL
  rcases c with ⟨hb,rfl⟩|⟨hb,rfl⟩
  ·go_enter func95,ntmps95
   go_wp2_with fail
   go_loop [2,13] (fun n i=>∃ k a:Nat,k<=len/\a<128^k/\i= .int .i64 k/\n= .int .i64 a/\rd k a (xs.drop k)=z) (fun _ i=>len-(intOf i).toNat)
   case atStart=>exact ⟨0,0,Nat.zero_le _,by omega,rfl,rfl,E.out⟩
   case round=>
    obtain ⟨k,a,hk,ha,rfl,rfl,hz⟩:=hrel
    by_cases hlt:k<len
    ·have hcell:=HC.out k hlt
     rw [HD.out k hlt] at hz;unfold bv at hcell;generalize xs.getD k 0#8=x at*;have hx:=x.isLt;have hk8:k<8:=by omega
     have e1:=Kj x;have Z:=Lib.hid hz;have HA:=Lib.hid ha;clear hz ha
     by_cases hmore:128<=x.toNat
     ·go_wp2_with fail
      go_round
      case rel=>
       refine ⟨k+1,a+(x.toNat-128)*128^k,by omega,Wd a k _ HA.out (by omega),by go_num,?_,?_⟩
       ·rw [zG a k x.toNat hk8 HA.out,show x.toNat%128=x.toNat-128 by omega]
       ·rw [<-Z.out,uG k a x _ hk8 hmore]
      case measure=>simp [intOf];omega
     ·have hlow:x.toNat<128:=by omega
      by_cases hx0:x.toNat=0
      ·have hb0:((x.toNat:Int)==0)=true:=beq_iff_eq.2 (by omega)
       by_cases hk0:0<k
       ·have Z2:=Lib.hid ((zI k a x (xs.drop (k+1)) hk8 hx0 hk0).symm.trans Z.out)
        clear hx0;go_wp2_with fail
        go_ret3
        exact ⟨by rw [<-Z2.out];rfl,rfl⟩
       ·have Z2:=Lib.hid ((sJ k a x (xs.drop (k+1)) hk8 hlow (fun _=>by omega)).symm.trans Z.out)
        clear hx0;go_wp2_with fail
        go_ret3
        refine ⟨?_,rfl⟩;rw [<-Z2.out]
        show Ending.returned (.tuple #[.int .i64 (bits .or .i64 (a:Int) (wrap64 ((x.toNat:Int)%128*2^(7*k)))),.int .i64 ((k:Int)+1),.int .i64 0])=_
        rw [zG a k x.toNat hk8 HA.out,show x.toNat%128=x.toNat by omega]
        rfl
      ·have hb0:((x.toNat:Int)==0)=false:=beq_eq_false_iff_ne.2 (by omega)
       have Z2:=Lib.hid ((sJ k a x (xs.drop (k+1)) hk8 hlow (fun h=>absurd h hx0)).symm.trans Z.out);clear hx0;go_wp2_with fail
       go_ret3
       refine ⟨?_,rfl⟩;rw [<-Z2.out]
       show Ending.returned (.tuple #[.int .i64 (bits .or .i64 (a:Int) (wrap64 ((x.toNat:Int)%128*2^(7*k)))),.int .i64 ((k:Int)+1),.int .i64 0])=_
       rw [zG a k x.toNat hk8 HA.out,show x.toNat%128=x.toNat by omega]
       rfl
    ·obtain rfl:k=len:=by omega
     rw [HE.out,Dh] at hz;have Z:=Lib.hid hz;clear hz
     by_cases h8:k<8
     ·go_wp2_with fail
      go_ret3
      exact ⟨by rw [<-Z.out,if_pos h8];rfl,rfl⟩
     ·go_wp2_with fail
      go_ret3
      exact ⟨by rw [<-Z.out,if_neg h8];rfl,rfl⟩
  ·have h8:∃ n8,n8=8:=⟨_,rfl⟩
   go_enter func95,ntmps95
   go_wp2_with fail
   go_loop [2,13] (fun n i=>∃ k a:Nat,k<=8/\a<128^k/\i= .int .i64 k/\n= .int .i64 a/\rd k a (xs.drop k)=z) (fun _ i=>8-(intOf i).toNat)
   case atStart=>exact ⟨0,0,Nat.zero_le _,by omega,rfl,rfl,E.out⟩
   case round=>
    obtain ⟨k,a,hk,ha,rfl,rfl,hz⟩:=hrel;rw [HD.out k (by omega)] at hz
    by_cases hk8:k<8
    ·have hcell:=HC.out k (by omega)
     unfold bv at hcell;generalize xs.getD k 0#8=x at*;have hx:=x.isLt;have e1:=Kj x;have Z:=Lib.hid hz;have HA:=Lib.hid ha;clear hz ha
     by_cases hmore:128<=x.toNat
     ·go_wp2_with fail
      go_round
      case rel=>
       refine ⟨k+1,a+(x.toNat-128)*128^k,by omega,Wd a k _ HA.out (by omega),by go_num,?_,?_⟩
       ·rw [zG a k x.toNat hk8 HA.out,show x.toNat%128=x.toNat-128 by omega]
       ·rw [<-Z.out,uG k a x _ hk8 hmore]
      case measure=>simp [intOf];omega
     ·have hlow:x.toNat<128:=by omega
      by_cases hx0:x.toNat=0
      ·have hb0:((x.toNat:Int)==0)=true:=beq_iff_eq.2 (by omega)
       by_cases hk0:0<k
       ·have Z2:=Lib.hid ((zI k a x (xs.drop (k+1)) hk8 hx0 hk0).symm.trans Z.out)
        clear hx0;go_wp2_with fail
        go_ret3
        exact ⟨by rw [<-Z2.out];rfl,rfl⟩
       ·have Z2:=Lib.hid ((sJ k a x (xs.drop (k+1)) hk8 hlow (fun _=>by omega)).symm.trans Z.out)
        clear hx0;go_wp2_with fail
        go_ret3
        refine ⟨?_,rfl⟩;rw [<-Z2.out]
        show Ending.returned (.tuple #[.int .i64 (bits .or .i64 (a:Int) (wrap64 ((x.toNat:Int)%128*2^(7*k)))),.int .i64 ((k:Int)+1),.int .i64 0])=_
        rw [zG a k x.toNat hk8 HA.out,show x.toNat%128=x.toNat by omega]
        rfl
      ·have hb0:((x.toNat:Int)==0)=false:=beq_eq_false_iff_ne.2 (by omega)
       have Z2:=Lib.hid ((sJ k a x (xs.drop (k+1)) hk8 hlow (fun h=>absurd h hx0)).symm.trans Z.out);clear hx0;go_wp2_with fail
       go_ret3
       refine ⟨?_,rfl⟩;rw [<-Z2.out]
       show Ending.returned (.tuple #[.int .i64 (bits .or .i64 (a:Int) (wrap64 ((x.toNat:Int)%128*2^(7*k)))),.int .i64 ((k:Int)+1),.int .i64 0])=_
       rw [zG a k x.toNat hk8 HA.out,show x.toNat%128=x.toNat by omega]
       rfl
    ·obtain rfl:k=8:=by omega
     rw [Mq 8 a _ _ (by omega)] at hz;have Z:=Lib.hid hz;clear hz;go_wp2_with fail
     go_ret3
     exact ⟨by rw [<-Z.out];rfl,rfl⟩
 ·obtain rfl:xs=[]:=List.eq_nil_of_length_eq_zero (by omega)
  obtain ⟨a,cap,rfl,h1,h2,h0,-⟩:=hs;have hm:maxLen=9223372036854775807:=rfl;rw [hm] at h2;simp only [List.length_nil]
  clear hm h0 hp;go_enter func95,ntmps95
  go_wp2_with fail
  go_loop [2,13] (fun n i=>i= .int .i64 0/\n= .int .i64 0) (fun _ _=>0)
  case atStart=>exact ⟨rfl,rfl⟩
  case round=>
   obtain ⟨rfl,rfl⟩:=hrel;go_wp2_with fail
   go_ret3
   exact ⟨rfl,rfl⟩
def Gw(n:Value)(w:World)(ys:Bytes)(e:Ending)(w':World):Prop:=∃ v,e= .returned (.tuple #[n,v,.int .i64 0])/\jv w.heap.size w' v ys/\Below w.heap.size w w'
theorem num_ok{v:Value}{xs:Bytes}{w:World}(hs:Seq w v xs)(hlen:xs.length<=1000000000){n s:Nat}(hr:read xs=(n,s,0)):
  Calls prog 41 #[v] w (Gw (.int .i64 n) w (xs.drop s)):=by
 obtain ⟨-,h1,h2,h3,h4⟩:=qy hr;obtain ⟨b,o,cap,rfl,g1,g2,hs,-⟩:=hs.spot (by omega);have K1:=Lib.hid (rF hs);rw [hr] at K1;unfold RdT at K1;have hf:=hs.from s h4;have KC:=Lib.hid (wN hf (by rw [List.length_drop];omega));have hm:maxLen=9223372036854775807:=rfl;rw [hm] at g2;generalize List.drop s xs=ys at*;generalize hL:xs.length=len at*;have hsi:(s:Int)<=len:=by omega
 have hsc:(s:Int)<=cap:=by omega
 clear hr hs hf hm hL
 by_cases hcs:cap=s
 ·rw [if_pos hcs] at KC
  subst hcs;obtain rfl:cap=len:=by omega
  simp only [Nat.sub_self] at KC
  go_enter func41,ntmps41
  go_wp2_with fail
  refine K1.out.mono ?_;rintro e w1 ⟨rfl,rfl⟩;go_wp2_with fail
  refine KC.out.mono ?_;rintro e w1 ⟨v1,rfl,ho1,hb1⟩;have O1:=Lib.hid ho1;clear ho1;go_wp2_with fail
  go_ret3
  exact ⟨_,rfl,O1.out,hb1⟩
 ·rw [if_neg hcs] at KC
  go_enter func41,ntmps41
  go_wp2_with fail
  refine K1.out.mono ?_;rintro e w1 ⟨rfl,rfl⟩;go_wp2_with fail
  refine KC.out.mono ?_;rintro e w1 ⟨v1,rfl,ho1,hb1⟩;have O1:=Lib.hid ho1;clear ho1;go_wp2_with fail
  go_ret3
  exact ⟨_,rfl,O1.out,hb1⟩
def part(n:Int)(k:Nat):Bytes:=(lI n).take k++List.replicate (8-k) 0#8
theorem part_len(n:Int)(k:Nat)(h:k<=8):(part n k).length=8:=by unfold part;rw [List.length_append,List.length_take,List.length_replicate,mV];omega
theorem Xk(n:Int):∀ k,k<8 ->(part n k).set k (low n k)=part n (k+1)
 |0,_=>rfl
 |1,_=>rfl
 |2,_=>rfl
 |3,_=>rfl
 |4,_=>rfl
 |5,_=>rfl
 |6,_=>rfl
 |7,_=>rfl
 |k+8,h=>absurd h (by omega)
theorem shr_low(n:Int)(k:Nat)(hk:k<8):(n/2^(8*k))%256=((low n k).toNat:Int):=by
 unfold low;rw [mU _ (Nat.mod_lt _ (by omega))]
 match k,hk with
 |0,_=>simp;omega
 |1,_=>simp;omega
 |2,_=>simp;omega
 |3,_=>simp;omega
 |4,_=>simp;omega
 |5,_=>simp;omega
 |6,_=>simp;omega
 |7,_=>simp;omega
theorem Tz{B:Nat}{e:TypeId}{w:World}{g n cap:Nat}{xs:Bytes}(h:w.ownsRow B e 1 (.slice (some ⟨g,0,none⟩) n cap) n (xs.map bv))(hl:xs.length=n):Seq w (.slice (some ⟨g,0,none⟩) n cap) xs:=by
 have h':=h
 rcases h.2 with ⟨h0,_⟩|⟨g',cap',cur,h0,hb,hg,hnc,hcm,hcs,htake⟩
 ·simp at h0
 ·simp only [Value.slice.injEq,Option.some.injEq,Addr.mk.injEq,and_true,true_and] at h0
  obtain ⟨rfl,rfl⟩:=h0;refine ⟨_,cap,by rw [hl],by omega,hcm,(by simp),fun hp=>⟨g,0,rfl,fun j hj=> ?_⟩⟩;have:=World.ownsRow.cellAt h' j (by omega);rw [Nat.zero_add,this,getD_map xs j hj]
theorem Gx{v:Value}{xs:Bytes}{w:World}(hs:Seq w v xs)(hlen:xs.length<=900000000)(n:Int)(h1: -9223372036854775808<=n)(h2:n<=9223372036854775807):
  Calls prog 201 #[v,.int .i64 n] w (Made w (xs++lI n)):=by
 have S0:=Lib.hid hs;obtain ⟨a,cap,rfl,g1,g2,g0,-⟩:=hs.parts;have hO:(w.alloc (.cells #[.int .u8 0,.int .u8 0,.int .u8 0,.int .u8 0,.int .u8 0,.int .u8 0,.int .u8 0,.int .u8 0] 254)).ownsRow w.heap.size 254 1 (.slice (some ⟨w.heap.size,0,none⟩) 8 8) 8 ((part n 0).map bv):=
  World.ownsRow_lit w _ 8 (Nat.le_refl _) (by unfold maxLen;omega) rfl
 have hB:Below w.heap.size w (w.alloc (.cells #[.int .u8 0,.int .u8 0,.int .u8 0,.int .u8 0,.int .u8 0,.int .u8 0,.int .u8 0,.int .u8 0] 254)):=(Below.refl _ _).alloc (Nat.le_refl _) _;have O0:=Lib.hid hO;have B0:=Lib.hid hB;clear hs g0 hO hB;go_enter func201,ntmps201
 go_wp2_with fail
 go_loopw [7] (fun i wr=>∃ k:Nat,k<=8/\i= .int .i64 k/\wr.ownsRow w.heap.size 254 1 (.slice (some ⟨w.heap.size,0,none⟩) 8 8) 8 ((part n k).map bv)/\Below w.heap.size w wr) (fun i _=>8-(intOf i).toNat)
 case atStart=>exact ⟨0,by omega,rfl,O0.out,B0.out⟩
 case round=>
  obtain ⟨k,hk,rfl,ho,hb⟩:=hrel
  by_cases hlt:k<8
  ·have hc:=ho.cellAt k (by omega)
   have hc':wr.cell? ⟨w.heap.size,k,none⟩=some (bv ((part n k).getD k 0#8)):=by rw [hc,getD_map _ _ (by rw [part_len n k hk];exact hlt)]
   have hf:=ho.frozenAt k;have hst:=ho.stored k (bv (low n k));have hst2:(wr.setCell ⟨w.heap.size,k,none⟩ (bv (low n k))).ownsRow w.heap.size 254 1 (.slice (some ⟨w.heap.size,0,none⟩) 8 8) 8 ((part n (k+1)).map bv):=by
    rw [<-Xk n k hlt,List.map_set];exact hst.1
   have hb2:Below w.heap.size w (wr.setCell ⟨w.heap.size,k,none⟩ (bv (low n k))):=hb.setCell (Nat.le_refl _) _;have O2:=Lib.hid hst2;have B2:=Lib.hid hb2;have hq:=shr_low n k hlt;generalize (part n k).getD k 0#8=x at*;unfold bv at hc';generalize low n k=y at*;have hy:=y.isLt;have HQ:=Lib.hid hq;clear hc hst hst2 hb2 ho hb hq;go_wp2_with fail
   rw [HQ.out];exact ⟨⟨k+1,by omega,by go_num,O2.out,B2.out⟩,by simp [intOf];omega⟩
  ·obtain rfl:k=8:=by omega
   have hq:Seq wr (.slice (some ⟨w.heap.size,0,none⟩) 8 8) (lI n):=Tz (by rw [show lI n=part n 8 from rfl];exact ho) rfl;have HQ:=Lib.hid hq;have HB:=Lib.hid hb;clear hq ho hb;have hl8:=mV n;generalize lI n=z at*;have HL:=Lib.hid hl8;clear hl8;go_wp2_with fail
   refine (AO _ _ _ (cell_of_row _ _ 0 _ 42 (0,0) (heap_alloc_new wr _)) (cell_of_row _ _ 1 _ 42 (0,0) (heap_alloc_new wr _)) ((S0.out.below HB.out).iB _) (HQ.out.iB _) (by rw [HL.out];omega)).mono ?_;rintro e w2 ⟨v2,rfl,ho2,hb2⟩;have hbe:Below w.heap.size w w2:=(HB.out.alloc HB.out.size _).trans (hb2.mono (by have:=HB.out.size;simp;omega));have O2:=Lib.hid (ho2.mono (by have:=HB.out.size;simp;omega:w.heap.size<=_));clear ho2 hb2;go_wp2_with fail
   go_ret
   exact ⟨_,rfl,O2.out,hbe⟩
theorem Xl(a:Nat)(h:a<9223372036854775808):Pg a=(a:Int):=by unfold Pg;rw [if_pos h]
theorem pow256(k:Nat)(h:k<8):256^k<=72057594037927936:=by
 have h1:256^k<=256^7:=Nat.pow_le_pow_right (by omega) (by omega);have e:256^7=72057594037927936:=by decide+kernel
 omega
theorem TH(a y:Nat)(ha:a<18446744073709551616)(hy:y<18446744073709551616):bits .or .i64 (a:Int) (wrap64 (y:Int))=IntKind.i64.wrap ((a|||y:Nat):Int):=by
 show IntKind.i64.wrap ((BitVec.ofInt 64 (a:Int)|||BitVec.ofInt 64 (wrap64 (y:Int))).toNat:Int)=_
 have e1:(BitVec.ofInt 64 (a:Int)).toNat=a:=by rw [BitVec.toNat_ofInt];omega
 have e2:(BitVec.ofInt 64 (wrap64 (y:Int))).toNat=y:=by rw [BitVec.toNat_ofInt];unfold wrap64;omega
 rw [BitVec.toNat_or,e1,e2]
theorem wrap_sgn(u:Nat)(h:u<18446744073709551616):IntKind.i64.wrap (u:Int)=Pg u:=by
 rw [IntKind.wrap_i64];unfold Pg
 split<;>omega
theorem or_sgn(a k x:Nat)(hk:k<8)(ha:a<256^k)(hx:x<256):bits .or .i64 (a:Int) (wrap64 ((x:Int)*2^(8*k)))=Pg (a+x*256^k):=by
 have h1:=pow256 k hk;have h2:x*256^k<=255*72057594037927936:=Nat.mul_le_mul (by omega) h1;have e:((x:Int)*2^(8*k))=((x*256^k:Nat):Int):=by
  rw [Int.natCast_mul,Int.natCast_pow,Int.pow_mul]
  rfl
 have e2:256^k=2^(8*k):=by rw [Nat.pow_mul]
 rw [e];have hj:(x*256^k)|||a=x*256^k+a:=nat_join (8*k) _ _ (by rw [e2];exact Nat.mul_mod_left _ _) (by rw [<-e2];exact ha)
 rw [TH a _ (by omega) (by omega),Nat.or_comm,hj,Nat.add_comm,wrap_sgn _ (by omega)]
theorem int_ok{v:Value}{xs:Bytes}{w:World}(hs:Seq w v xs)(hlen:xs.length<=1000000000)(h8:8<=xs.length):
  Calls prog 285 #[v] w (Gw (.int .i64 (Pg (ival (xs.take 8)))) w (xs.drop 8)):=by
 obtain ⟨b,o,cap,rfl,g1,g2,hs,hc⟩:=hs.spot (by omega);have hf:=hs.from 8 h8;have KC:=Lib.hid (wN hf (by rw [List.length_drop];omega));have HC:=Lib.hid hc;have hD:∀ k,k<xs.length ->ival (xs.take (k+1))=ival (xs.take k)+(xs.getD k 0#8).toNat*256^k:=fun k hk=>by
  rw [List.take_succ_eq_append_getElem hk,Xm,List.length_take,Nat.min_eq_left (by omega)];simp [List.getD,hk]
 have hI:∀ k,k<=xs.length ->ival (xs.take k)<256^k:=fun k hk=>by
  have:=Mr (xs.take k);rw [List.length_take,Nat.min_eq_left hk] at this;exact this
 have HD:=Lib.hid hD;have HI:=Lib.hid hI;have hm:maxLen=9223372036854775807:=rfl;rw [hm] at g2;generalize List.drop 8 xs=ys at*;generalize hL:xs.length=len at*;have hlc:(len:Int)<=cap:=by omega
 have h8i:(8:Int)<=len:=by omega
 have h8c:(8:Int)<=cap:=by omega
 clear hs hf hm hL hc hD hI;go_enter func285,ntmps285
 go_wp2_with fail
 go_loop [5,14] (fun n i=>∃ k:Nat,k<=8/\i= .int .i64 k/\n= .int .i64 (Pg (ival (xs.take k)))) (fun _ i=>8-(intOf i).toNat)
 case atStart=>exact ⟨0,by omega,rfl,rfl⟩
 case round=>
  obtain ⟨k,hk,rfl,rfl⟩:=hrel
  by_cases hlt:k<8
  ·have hcell:=HC.out k (by omega)
   unfold bv at hcell;have hd:=HD.out k (by omega);have hi:=HI.out k (by omega);have h1:=pow256 k hlt;rw [Xl (ival (xs.take k)) (by omega)];have e:=or_sgn (ival (xs.take k)) k (xs.getD k 0#8).toNat hlt hi (xs.getD k 0#8).isLt;rw [<-hd] at e;have E:=Lib.hid e;generalize ival (xs.take k)=a at*;generalize xs.getD k 0#8=x at*;have hx:=x.isLt;clear hd hi e h1;go_wp2_with fail
   go_round
   case rel=>exact ⟨k+1,by omega,by go_num,by rw [E.out]⟩
   case measure=>simp [intOf];omega
  ·obtain rfl:k=8:=by omega
   by_cases hcs:cap=8
   ·subst hcs
    obtain rfl:len=8:=by omega
    rw [if_pos rfl] at KC;simp only [Nat.sub_self] at KC
    go_wp2_with fail
    refine KC.out.mono ?_;rintro e w1 ⟨v1,rfl,ho1,hb1⟩;have O1:=Lib.hid ho1;clear ho1;go_wp2_with fail
    go_ret3
    exact ⟨_,rfl,O1.out,hb1⟩
   ·rw [if_neg hcs] at KC
    go_wp2_with fail
    refine KC.out.mono ?_;rintro e w1 ⟨v1,rfl,ho1,hb1⟩;have O1:=Lib.hid ho1;clear ho1;go_wp2_with fail
    go_ret3
    exact ⟨_,rfl,O1.out,hb1⟩
theorem Di(w:World)(x y:Obj):((w.alloc x).alloc y).heap[w.heap.size+1]? =some y:=by
 have h:=heap_alloc_new (w.alloc x) y;rw [show (w.alloc x).heap.size=w.heap.size+1 by simp] at h;exact h
theorem Gy{v:Value}{xs:Bytes}{w:World}(hs:Seq w v xs)(hlen:xs.length<=900000000)(t:ByteArray)(ht:t.size<=65536):
  Calls prog 200 #[v,.string t] w (MadeT w (xs++Wh t)):=by
 have hl:=gP t.size (by omega);have K1:=Lib.hid (Eu t.size (by omega));have S0:=Lib.hid hs;have E:Hid (form t.size++bs t=Wh t):=Lib.hid rfl;have hbl:=Lib.hid (Ms t);obtain ⟨a,cap,rfl,h1,h2,h0,-⟩:=hs.parts;have KB:=fun u=>Xn u t
 clear hs h0;generalize form t.size=z at*;generalize Wh t=y at*;go_enter func200,ntmps200
 go_wp2_with fail
 refine (K1.out _).mono ?_;rintro e w1 ⟨v1,rfl,ho1,hb1⟩;obtain ⟨a1,c1,rfl,-,-,ho1,-⟩:=ho1.parts;have O1:=Lib.hid ho1;have B1:=Lib.hid hb1;clear ho1;go_wp2_with fail
 have hg:=grownCap_ge w1 t.size 0 5;have hgm:=grownCap_le_maxLen w1 t.size 0 5 (by unfold maxLen;omega);have hq:∀ fr o,Seq ((w1.alloc (.cells (bytesRow t (grownCap w1 t.size 0 5)) 5 fr)).alloc o).drew (.slice (some ⟨w1.heap.size,0,none⟩) t.size (grownCap w1 t.size 0 5)) (bs t):=fun fr o=>
  ((seq_text w1 t (by omega) _ hg hgm fr).iB o).of_cell (fun _=>rfl)
 generalize grownCap w1 t.size 0 5=G at*;refine (Mt (w1.heap.size+1) 3 (((w1.alloc (.cells (bytesRow t G) 5 ((bytesRow t G).size,(bytesRow t G).size+1))).alloc (.cells #[.slice a xs.length cap,.slice a1 z.length c1,.slice (some ⟨w1.heap.size,0,none⟩) t.size G] 42)).drew) (by exact cell_of_row _ _ 0 _ 42 (0,0) (Di w1 _ _)) (by exact cell_of_row _ _ 1 _ 42 (0,0) (Di w1 _ _)) (by exact cell_of_row _ _ 2 _ 42 (0,0) (Di w1 _ _))
  ((((S0.out.below B1.out).iB _).iB _).of_cell (fun _=>rfl)) (((O1.out.seq.iB _).iB _).of_cell (fun _=>rfl)) (hq _ _) (by rw [hbl.out];omega)).mono ?_
 rintro e w2 ⟨v2,rfl,ho2,hb2⟩;have hsz:=B1.out.size;have hbe:Below w.heap.size w w2:=(((B1.out.alloc hsz _).alloc (by simp;omega) _).drew).trans (hb2.mono (by simp;omega));have O2:=Lib.hid (ho2.mono (by simp;omega:w.heap.size<=_));rw [E.out] at O2;clear ho2 hb2 hq;go_wp2_with fail
 go_ret2
 exact ⟨_,rfl,O2.out,hbe⟩
theorem text_ok{v:Value}{xs:Bytes}{w:World}(hs:Seq w v xs)(hlen:xs.length<=1000000000){n s:Nat}(hr:read xs=(n,s,0))(hn:n<=65536)(hnl:n<=xs.length-s):
  Calls prog 283 #[v] w (Gw (.string (sb ((xs.drop s).take n))) w (xs.drop (s+n))):=by
 obtain ⟨-,h1,h2,h3,h4⟩:=qy hr;obtain ⟨b,o,cap,rfl,g1,g2,hs,-⟩:=hs.spot (by omega);have K1:=Lib.hid (rF hs);rw [hr] at K1;unfold RdT at K1;have hf:=hs.from (s+n) (by omega);have hd:=(hs.from s h4).first n (by rw [List.length_drop];omega);have KC:Hid (∀ u,Below w.heap.size w u ->_):=Lib.hid (fun u (hb:Below w.heap.size w u)=>wN (hf.below hb) (by rw [List.length_drop];omega));have hm:maxLen=9223372036854775807:=rfl;rw [hm] at g2;obtain ⟨e,he⟩:∃ e,e=s+n:=⟨_,rfl⟩;rw [<-he] at hf KC;have hen:n=e-s:=by omega
 have hI:((s:Int)+(n:Int))=(e:Int):=by omega
 have HI:=Lib.hid hI;rw [hen] at hd;have HD:=Lib.hid hd;have HT:Hid (Gw (.string (sb ((xs.drop s).take n))) w (xs.drop (s+n))=Gw (.string (sb ((xs.drop s).take (e-s)))) w (xs.drop e)):=Lib.hid (by rw [<-he,<-hen]);rw [HT.out];generalize List.drop e xs=ys at*;generalize List.take (e-s) (List.drop s xs)=zs at*;have HX:=Lib.hid hs;generalize hL:xs.length=len at*;have hse:s<=e:=by omega
 have hel:e<=len:=by omega
 have hlc:(len:Int)<=cap:=by omega
 have i1:(s:Int)+n<=len:=by omega
 have i2:(0:Int)<=s:=by omega
 have i3:(0:Int)<=n:=by omega
 have i4:(s:Int)<=e:=by omega
 have i5:(e:Int)<=len:=by omega
 have i6:(e:Int)<=cap:=by omega
 have i7:(0:Int)<=e:=by omega
 clear hr hs hf hm hL hd hnl HT hen hI he
 by_cases hcs:cap=e
 ·obtain rfl:len=cap:=by omega
  obtain rfl:e=len:=by omega
  rw [if_pos rfl] at KC;simp only [Nat.sub_self] at KC
  by_cases hc2:e=s
  ·obtain rfl:s=e:=by omega
   rw [if_pos rfl] at HD;simp only [Nat.sub_self] at HD
   go_enter func283,ntmps283
   go_wp2_with fail
   refine K1.out.mono ?_;rintro e w1 ⟨rfl,rfl⟩;go_wp2_with fail
   rw [HI.out]
   go_region_held3 (fun u=>(convert 42 9 (.slice (some ⟨b,o,none⟩) 0 0)).run prog u= .ok (.string (sb zs)) u) ((first|exact vk (HD.out.below hb2)|exact vk (HD.out.of_cell (fun _=>rfl)))) ((go_at_call 96;refine (KC.out _ ?_).mono ?_;exact (Below.refl _ _).drew;rintro e w1 ⟨v1,rfl,ho1,hb1⟩;have hb2:Below w.heap.size w w1:=(Below.refl _ _).drew.trans hb1))
   have O1:=Lib.hid ho1;clear ho1;go_wp2_with fail
   go_ret3
   exact ⟨_,rfl,O1.out,hb2⟩
  ·rw [if_neg hc2] at HD
   go_enter func283,ntmps283
   go_wp2_with fail
   refine K1.out.mono ?_;rintro e w1 ⟨rfl,rfl⟩;go_wp2_with fail
   rw [HI.out]
   go_region_held3 (fun u=>(convert 42 9 (.slice (some ⟨b,o+s,none⟩) (e-s) (e-s))).run prog u= .ok (.string (sb zs)) u) ((first|exact vk (HD.out.below hb2)|exact vk (HD.out.of_cell (fun _=>rfl)))) ((go_at_call 96;refine (KC.out _ ?_).mono ?_;exact (Below.refl _ _).drew;rintro e w1 ⟨v1,rfl,ho1,hb1⟩;have hb2:Below w.heap.size w w1:=(Below.refl _ _).drew.trans hb1))
   have O1:=Lib.hid ho1;clear ho1;go_wp2_with fail
   go_ret3
   exact ⟨_,rfl,O1.out,hb2⟩
 ·have hc2:¬ cap=s:=by omega
  rw [if_neg hcs] at KC;rw [if_neg hc2] at HD;go_enter func283,ntmps283
  go_wp2_with fail
  refine K1.out.mono ?_;rintro e w1 ⟨rfl,rfl⟩;go_wp2_with fail
  rw [HI.out]
  go_region_held3 (fun u=>(convert 42 9 (.slice (some ⟨b,o+s,none⟩) (e-s) (cap-s))).run prog u= .ok (.string (sb zs)) u) ((first|exact vk (HD.out.below hb2)|exact vk (HD.out.of_cell (fun _=>rfl)))) ((go_at_call 96;refine (KC.out _ ?_).mono ?_;exact (Below.refl _ _).drew;rintro e w1 ⟨v1,rfl,ho1,hb1⟩;have hb2:Below w.heap.size w w1:=(Below.refl _ _).drew.trans hb1))
  have O1:=Lib.hid ho1;clear ho1;go_wp2_with fail
  go_ret3
  exact ⟨_,rfl,O1.out,hb2⟩
end Go.Proofs.YtfgcodcablpdcaaGreat.By