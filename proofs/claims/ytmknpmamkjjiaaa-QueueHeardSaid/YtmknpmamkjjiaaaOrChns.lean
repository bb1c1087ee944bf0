import Derived.Test.YtmknpmamkjjiaaaOrBoxs
set_option linter.unusedVariables false
set_option maxRecDepth 100000
set_option maxHeartbeats 64000000
namespace Go.Proofs.Ytmknpmamkjjiaaa
open Go.Proofs.Try
open Go.RowKit Plain
theorem sW{w:World}{la:Option Addr}{n lc:Nat}{l:List bK}(h:bJ dJ w (.slice la n lc) l)(hp:0<n):∃ lb lo,la=some ⟨lb,lo,none⟩/\∀ k,k<n ->∃ da dn dc ea en ec,∀ W,Below w.heap.size w W ->
  (W.cell? ⟨lb,lo+k*4,none⟩=some (.int .i64 (dW l k).node)/\W.cell? ⟨lb,lo+k*4+1,none⟩=some (.int .i64 (dW l k).seq)/\W.cell? ⟨lb,lo+k*4+2,none⟩=some (.slice da dn dc)/\W.cell? ⟨lb,lo+k*4+3,none⟩=some (.slice ea en ec))/\
   dU W (.agg #[.int .i64 (dW l k).node,.int .i64 (dW l k).seq,.slice da dn dc,.slice ea en ec]) (dW l k):=by
 have hd:=h.gy.1;obtain ⟨lb,lo,Dv,hsl,-,-,hc⟩:=rY (B:=w.heap.size) h (aj _) (by omega);simp only [aG] at hsl
 obtain ⟨rfl,-,-⟩:=hsl;refine ⟨lb,lo,rfl,fun k hk=> ?_⟩;obtain ⟨da,dn,dc,ea,en,ec,TA,IT⟩:=hc k (by omega);refine ⟨da,dn,dc,ea,en,ec,fun W hb=>⟨?_,IT.below hb⟩⟩;have T:=TA.below hb TA.lt;exact ⟨T.c0,T.c1,T.c2,T.c3⟩
theorem vT{xs ys:List bK}(h:xs.length=ys.length)(e:∀ j,j<xs.length ->dW xs j=dW ys j):xs=ys:=by
 apply bE h
 intro i h1 h2;have:=e i h1;rw [fq h1,fq h2] at this;exact this
theorem qg{uv vv:Value}{xs ys:List bK}{w:World}(hu:bJ dJ w uv xs)(hv:bJ dJ w vv ys)(hl:xs.length<=1000000):
  Calls prog 18 #[uv,vv] w (bH w (decide (xs=ys))):=by
 obtain ⟨la,lc,rfl,L1,L2,-,-⟩:=hu.parts;obtain ⟨ma,mc,rfl,M1,M2,-,-⟩:=hv.parts;have HU:=zH hu;have HV:=zH hv
 by_cases hne:xs.length=ys.length
 ·obtain ⟨n,hn⟩:∃ n,n=xs.length:=⟨_,rfl⟩
  rw [<-hne] at HV M1 ⊢;rw [<-hn] at HU HV L1 M1 ⊢;have CY:=zH hne;have CZ:=zH hn;clear hu hv hn hne;go_enter func18,ntmps18
  go_wp2_with fail
  go_loopw [5] (fun i wr=>∃ k:Nat,k<=n/\i= .int .i64 k/\Aside ((∀ j,j<k ->dW xs j=dW ys j)/\Below w.heap.size w wr)) (fun i _=>n-(intOf i).toNat)
  case atStart=>exact ⟨0,aJ _,rfl,fun j hj=>absurd hj (Nat.not_lt_zero _),ak _ _⟩
  case round=>
   obtain ⟨k,hk,rfl,hrel⟩:=hrel;obtain ⟨h1,h2⟩:=Aside.out hrel;have A1:=zH h1;have GB:=zH h2;clear hrel h1 h2
   by_cases hlt:k<n
   ·obtain ⟨lb,lo,rfl,hc⟩:=sW HU.o (by omega)
    obtain ⟨mb,mo,rfl,hc2⟩:=sW HV.o (by omega);obtain ⟨da,dn,dc,ea,en,ec,hW⟩:=hc k hlt;obtain ⟨da2,dn2,dc2,ea2,en2,ec2,hW2⟩:=hc2 k hlt;have AN:Hid (dW xs k=dW ys k ->∀ j,j<k+1 ->dW xs j=dW ys j):=zH (fun e j hj=>by
     by_cases c:j=k
     ·rw [c];exact e
     ·exact A1.o j (by omega))
    have AF:Hid (¬ dW xs k=dW ys k ->decide (xs=ys)=false):=zH (fun e=>aA fun h=>e (by rw [h]));have KE:Hid (∀ u,Below wr.heap.size wr u ->Below wr.heap.size wr u/\(u.cell? ⟨lb,lo+k*4,none⟩=some (.int .i64 (dW xs k).node)/\u.cell? ⟨lb,lo+k*4+1,none⟩=some (.int .i64 (dW xs k).seq)/\u.cell? ⟨lb,lo+k*4+2,none⟩=some (.slice da dn dc)/\u.cell? ⟨lb,lo+k*4+3,none⟩=some (.slice ea en ec))/\u.cell? ⟨mb,mo+k*4,none⟩=some (.int .i64 (dW ys k).node)/\u.cell? ⟨mb,mo+k*4+1,none⟩=some (.int .i64 (dW ys k).seq)/\u.cell? ⟨mb,mo+k*4+2,none⟩=some (.slice da2 dn2 dc2)/\u.cell? ⟨mb,mo+k*4+3,none⟩=some (.slice ea2 en2 ec2)):=zH (fun u hb=>⟨hb,(hW u (GB.o.trans (hb.mono GB.o.size))).1,(hW2 u (GB.o.trans (hb.mono GB.o.size))).1⟩);have KS:=zH (fun u (hb:Below wr.heap.size wr u)=>xR (hW u (GB.o.trans (hb.mono GB.o.size))).2 (hW2 u (GB.o.trans (hb.mono GB.o.size))).2 _ rfl);have k1:(k:Int)<n:=by omega
    have k2:(n:Int)<=lc:=by omega
    have k3:(lc:Int)<=9223372036854775807:=by omega
    have k4:(n:Int)<=mc:=by omega
    have k5:(mc:Int)<=9223372036854775807:=by omega
    clear hc hc2 hW hW2;generalize dW xs k=x at*;generalize dW ys k=y at*;go_upto_region 6 with fail
    obtain ⟨r,hr⟩:∃ r,r=decide (x=y):=⟨_,rfl⟩;rw [<-hr] at KS;have HR:=zH hr;clear hr;refine wp_region_held_drew (S:=fun u'=>Below wr.heap.size wr u'/\(u'.cell? ⟨lb,lo+k*4,none⟩=some (.int .i64 x.node)/\u'.cell? ⟨lb,lo+k*4+1,none⟩=some (.int .i64 x.seq)/\u'.cell? ⟨lb,lo+k*4+2,none⟩=some (.slice da dn dc)/\u'.cell? ⟨lb,lo+k*4+3,none⟩=some (.slice ea en ec))/\u'.cell? ⟨mb,mo+k*4,none⟩=some (.int .i64 y.node)/\u'.cell? ⟨mb,mo+k*4+1,none⟩=some (.int .i64 y.seq)/\u'.cell? ⟨mb,mo+k*4+2,none⟩=some (.slice da2 dn2 dc2)/\u'.cell? ⟨mb,mo+k*4+3,none⟩=some (.slice ea2 en2 ec2)) (by kernel_rfl) ?_ (fun hH=> ?_)
    ·(exact KE.o _ (ak _ _).drew)
    simp only [zS,aC,Nat.reduceAdd]
    refine bF 0 hH ?_;refine bF 1 hH ?_;refine bF 2 hH ?_;refine bF 3 hH ?_;refine bF 4 hH ?_;refine bF 5 hH ?_;refine bF 6 hH ?_;refine bF 7 hH ?_;refine rd 8 fun K hK=> ?_
    go_simp
    refine (KS.o _ hH.1).mono ?_;rintro e s1 ⟨rfl,hb⟩;refine hK.out _ _ (KE.o _ (dz hH hb)) (fun hH=> ?_);clear hK K hb;refine bF 9 hH ?_;refine wpAnyH_done (by kernel_rfl) ?_ _;have GZ:Hid (Below w.heap.size w _):=zH (GB.o.trans (hH.1.mono GB.o.size));clear hH
    cases r
    ·have HF:=zH (AF.o fun e=>by have:=HR.o;rw [aB e] at this;cases this)
     go_wp2_with fail
     go_ret
     exact ⟨by rw [HF.o];rfl,GZ.o⟩
    ·have HA:=zH (AN.o (of_decide_eq_true HR.o.symm))
     go_wp2_with fail
     go_roundw
     case rel=>exact ⟨k+1,by omega,by go_num,HA.o,GZ.o⟩
     case measure=>simp [intOf];omega
   ·obtain rfl:k=n:=by omega
    have HA:Hid (decide (xs=ys)=true):=zH (aB (vT CY.o fun j hj=>A1.o j (by rw [CZ.o];exact hj)));go_wp2_with fail
    go_ret
    exact ⟨by rw [HA.o];rfl,GB.o⟩
 ·have HF:Hid (decide (xs=ys)=false):=zH (aA fun e=>hne (by rw [e]))
  have bne:((xs.length:Int) !=(ys.length:Int))=true:=by simp;omega
  clear hu hv;go_enter func18,ntmps18
  go_wp2_with fail
  go_ret
  exact ⟨by rw [HF.o];rfl,ak _ _⟩
end Go.Proofs.Ytmknpmamkjjiaaa