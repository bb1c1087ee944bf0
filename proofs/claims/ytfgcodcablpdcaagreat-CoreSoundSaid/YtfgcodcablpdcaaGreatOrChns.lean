import Derived.Test.YtfgcodcablpdcaaGreatOrNxs
import Derived.Test.YtfgcodcablpdcaaGreatOrLone
set_option linter.unusedVariables false
set_option maxRecDepth 100000
set_option maxHeartbeats 64000000
namespace Go.Proofs.YtfgcodcablpdcaaGreat
open Go.Proofs.Tryz
open Go.RowKit Plain
theorem ownI_of{B:Nat}{w:World}{v:Value}{xs:List Int}(h:gy gL B w v xs):gI B w v xs:=by
 obtain ⟨vals,ho,hl,hr⟩:=h;have e:vals=xs.map (Value.int .i64):=by
  apply eF
  intro i
  by_cases hi:i<xs.length
  ·have h1:=hr i xs[i] (au hi)
   have h2:(pt 1 vals i)[0]? =vals[i*1+0]? :=lH vals i 0 (by omega);have h3:pt 1 vals i=[.int .i64 xs[i]]:=h1;rw [h3] at h2;rw [show i=i*1+0 by omega,<-h2];simp [hi]
  ·have h4:vals.length=xs.length:=by rw [hl];show xs.length*1=_;omega
   rw [aW (by omega),aW (by rw [dH];omega)]
 unfold gI;rw [<-e];exact ho
structure qd(F:Nat ->Prop)(B:Nat)(w:World)(tv:Value)(a:List fI):Prop where
 row:iO (fun b=>¬ F b/\B<=b) gV B w tv a
 o:∀ k,tv.ownBlock=some k ->¬ F k
theorem qd.nil(F:Nat ->Prop)(B:Nat)(w:World):qd F B w (.slice none 0 0) []:=⟨iO.nil _ _ _,fun k h=>by cases h⟩
theorem qd.to{F F':Nat ->Prop}{B:Nat}{w w':World}{tv:Value}{a:List fI}(h:qd F B w tv a)(ft:Aq F w F' w'):qd F' B w' tv a:=by
 have hlt:=h.row.lt;have hs:=ft.but.size;have hn:∀ b,b<w.heap.size ->¬ F b ->¬ F' b:=fun b hb h1 h2=>(ft.new b h2).elim h1 fun e=>by omega
 obtain ⟨vals,ho,hr⟩:=h.row;refine ⟨⟨vals,⟨ho.1,?_⟩,(hr.agree fun b hb=>ft.but.block b hb.2.1 hb.1.1).mono fun b hb=>⟨⟨hn b hb.2.1 hb.1.1,hb.1.2⟩,ay hb.2.1 hs,hb.2.2⟩⟩,fun k hk=>hn k (hlt k hk).2 (h.o k hk)⟩
 rcases ho.2 with hz|⟨g,cap,cur,hv,hb,hg,hr'⟩
 ·exact .inl hz
 ·exact .inr ⟨g,cap,cur,hv,hb,(ft.but.block g (hlt g (by rw [hv];rfl)).2 (h.o g (by rw [hv];rfl))).trans hg,hr'⟩
theorem RA{α:Type}{L:El α}{N:Nat}{w:World}{v:Value}{xs:List α}(h:Sq L (fun b=>N<=b/\b<w.heap.size) w v xs)(n:Nat):Sq L (fun b=>N<=b/\b<(w.drewN n).heap.size) (w.drewN n) v xs:=
 have hb:=below_drewN (aj w.heap.size w) n
 (h.agree fun b hq=>hb.block b hq.2).mono fun b hq=>⟨hq.1,ay hq.2 hb.size⟩
theorem Gp{k:Nat}{p:Prop}(h:Value.ownBlock (.slice none 0 0)=some k):p:=by cases h
theorem Jm:82≠3:=by decide
theorem oD.grown{F:Nat ->Prop}{B:Nat}{w w':World}{g:Nat}{l a:List fI}{v:Ints}{H:List Nat}{Bh:Int ->Int ->List Nat}{lv hv rv tv:Value}{m:Nat}{V:gB ->Value}{hs:List Int}(h:oD F B w g l v H Bh lv hv rv m V hs)(ht:qd F B w tv a)(hg:w.grownBy w' tv.ownBlock):
  oD F B w' g l v H Bh lv hv rv m V hs:=by
 have hlt:=ht.row.lt;have hF:∀ k,k<w.heap.size ->F k ->w'.heap[k]? =w.heap[k]? :=fun k hk f=>hg.block k hk fun e=>ht.o k e.symm f
 have hvt:∀ k,hv.ownBlock=some k ->tv.ownBlock≠some k:=fun k hk e=>by
  obtain ⟨c,fz,h1⟩:=Lib.ownsRow_kind h.vec k hk;obtain ⟨vals,ho,-⟩:=ht.row;obtain ⟨c',fz',h2⟩:=Lib.ownsRow_kind ho k e;rw [h1] at h2;simp only [bS,dY] at h2
  exact Jm h2.2.1.symm
 exact ⟨⟨(hF g h.hp.lt h.Fg).trans h.hp.box,h.hp.row.keep fun k hk=>hF k (h.hp.row.lt k hk).2 (h.Fr k hk),h.hp.low⟩,h.heap,h.perm,h.list.agree fun b hl=>hg.block b (ay hl h.size) fun e=>by have:=(hlt b e.symm).1;omega,
  h.vec.keep fun k hk=>hg.block k (h.vec.lt k hk).2 fun e=>hvt k hk e.symm,h.map.keep (hF m h.map.lt h.Fm),fun d=>(h.rows d).keep fun k hk=>hF k ((h.rows d).lt k hk).2 (h.FV d k hk),h.apart,h.uX,h.Fg,h.Fm,h.Fr,h.FV,fun k f=>⟨(h.Flow k f).1,ay (h.Flow k f).2 hg.size⟩,ak h.size hg.size,h.N8⟩
theorem Wt.grown{F:Nat ->Prop}{B:Nat}{w w':World}{g:Nat}{l a:List fI}{v:Ints}{H:List Nat}{Bh:Int ->Int ->List Nat}{tv:Value}(h:Wt F B w g l v H Bh)(ht:qd F B w tv a)(hg:w.grownBy w' tv.ownBlock):Wt F B w' g l v H Bh:=by
 obtain ⟨_,_,_,_,_,_,h⟩:=h;exact (h.grown ht hg).is
theorem Wt.below{F:Nat ->Prop}{B:Nat}{w w':World}{g:Nat}{l:List fI}{v:Ints}{H:List Nat}{Bh:Int ->Int ->List Nat}(h:Wt F B w g l v H Bh)(hb:Below w.heap.size w w'):Wt F B w' g l v H Bh:=by
 obtain ⟨_,_,_,_,_,_,h⟩:=h;exact (h.below hb).is
theorem Wt.low{F:Nat ->Prop}{B:Nat}{w:World}{g:Nat}{l:List fI}{v:Ints}{H:List Nat}{Bh:Int ->Int ->List Nat}(h:Wt F B w g l v H Bh):(∀ k,F k ->B<=k/\k<w.heap.size)/\B<=w.heap.size:=by
 obtain ⟨_,_,_,_,_,_,h⟩:=h;exact ⟨h.Flow,h.size⟩
theorem Aq.below{F F':Nat ->Prop}{B:Nat}{w w':World}{g:Nat}{l:List fI}{v:Ints}{H:List Nat}{Bh:Int ->Int ->List Nat}(ft:Aq F w F' w')(h:Wt F B w g l v H Bh):Below B w w':=ft.but.below h.low.2 fun k f=>(h.low.1 k f).1
structure W9(l:List fI)(v:Ints)(B g:Nat)(w0:World)(tv:Value)(p:Nat)(b:Bool)(gm:List Bool)(wr:World)(F:Nat ->Prop)(a:List fI)(u:Ints):Prop where
 yes:b=true ->∃ H Bh,p<l.length/\jH l u gm (p::H) Bh []/\(∀ j∈H,p<=j)/\gY u (jr l p)=true/\Wt F B wr g l u H Bh
 no:b=false ->∃ Bh,jH l u gm [] Bh []/\Wt F B wr g l u [] Bh
 taken:qd F B wr tv a
 all:kH v l=a++kH u (nC gm l)
 last:u=jd v a
 low:Below B w0 wr
 len:u.length<=1000000
def Vr(w:World)(l:List fI)(v:Ints)(e:Ending)(w':World):Prop:=∃ a x,e= .returned (.tuple #[a,x])/\Sq gV (fun b=>w.heap.size<=b/\b<w'.heap.size) w' a l/\Sq gL (fun b=>w.heap.size<=b/\b<w'.heap.size) w' x v/\Below w.heap.size w w'
theorem CO{l a:List fI}{v u:Ints}{B g:Nat}{w0 w w':World}{tv:Value}{gm:List Bool}{F:Nat ->Prop}{Bh:Int ->Int ->List Nat}{H:List Nat}{e:Ending}(hn:NextTo F B w g l u gm Bh e w')(hw:Wt F B w g l u H Bh)(ht:qd F B w tv a)(h1:kH v l=a++kH u (nC gm l))(h2:u=jd v a)(h3:Below B w0 w)(h4:u.length<=1000000):
  ∃ (p:Nat) (b:Bool) (F':Nat ->Prop),e= .returned (.tuple #[.int .i64 (p:Int),.bool b])/\W9 l v B g w0 tv p b gm w' F' a u:=by
 rcases hn with ⟨p,F',H',rfl,k1,k2,k3,k4,k5,k6⟩|⟨F',rfl,k2,k5,k6⟩
 ·exact ⟨p,true,F',rfl,fun _=>⟨H',Bh,k1,k2,k3,k4,k5⟩,(fun h=>nomatch h),ht.to k6,h1,h2,h3.trans (k6.below hw),h4⟩
 ·exact ⟨0,false,F',rfl,(fun h=>nomatch h),fun _=>⟨Bh,k2,k5⟩,ht.to k6,h1,h2,h3.trans (k6.below hw),h4⟩
theorem RH{l a:List fI}{v u:Ints}{gm:List Bool}(h:kH v l=a++kH u (nC gm l)):a.length<=l.length:=by
 have:=LW v l;rw [h,aA] at this;omega
theorem Kv{vv lv:Value}{v:Ints}{l:List fI}{w:World}(hv:gQ w vv v)(hlv:fM gV w lv l)(hl:l.length<=1000000)(hf:∀ t∈l,Dp t)(hvl:v.length<=1000000):
  Calls prog 134 #[vv,lv] w (Vr w (kH v l) (jd v (kH v l))):=by
 have KC:=zH (nL (N9 hv) hvl);obtain ⟨va,vc,rfl,-,-,-,-⟩:=hv.parts;obtain ⟨la,lc,rfl,L1,L2,-,-⟩:=hlv.parts;have HL:=zH hlv;have HF:=zH hf;have hmm:=@run_makeMap prog;obtain ⟨n,hn⟩:∃ n,n=l.length:=⟨_,rfl⟩;have Iq:=zH hn;rw [<-hn] at HL L1 ⊢;clear hv hlv hf hn;go_enter func134,ntmps134
 go_upto_region 2 with (go_at_call 89;refine KC.o.mono ?_;rintro e w1 ⟨v1,rfl,ho1,hb1⟩;have O1:=zH (ownI_of ho1);have G1:=zH hb1;obtain ⟨a1,cc1,rfl,-,-,-,-⟩:=ho1.parts;clear ho1 hb1 KC)
 have MW:Hid (MapAt (w1.alloc (.map #[] 0)) w1.heap.size (fun _=> .slice none 0 0)):=zH (MapAt.made w1);have BW:Hid (((w1.alloc (.map #[] 0)).alloc (.cells #[.slice la n lc,.slice a1 v.length cc1,.slice none 0 0,.map (some w1.heap.size)] 217)).heap[w1.heap.size+1]? =some (Rx (.slice la n lc) (.slice a1 v.length cc1) (.slice none 0 0) (.map (some w1.heap.size)))):=zH (by have:=aM (w1.alloc (.map #[] 0)) (.cells #[.slice la n lc,.slice a1 v.length cc1,.slice none 0 0,.map (some w1.heap.size)] 217);rw [show (w1.alloc (.map #[] 0)).heap.size=w1.heap.size+1 by simp] at this;exact this);have GW:Hid (Below w1.heap.size w1 ((w1.alloc (.map #[] 0)).alloc (.cells #[.slice la n lc,.slice a1 v.length cc1,.slice none 0 0,.map (some w1.heap.size)] 217))):=zH (((aj _ _).alloc (ah _) _).alloc (by simp) _);have MX:Hid (MapAt ((w1.alloc (.map #[] 0)).alloc (.cells #[.slice la n lc,.slice a1 v.length cc1,.slice none 0 0,.map (some w1.heap.size)] 217)) w1.heap.size (fun _=> .slice none 0 0)):=zH (MW.o.below ((aj _ _).alloc (ah _) _));have ZW:Hid (w1.heap.size+1<((w1.alloc (.map #[] 0)).alloc (.cells #[.slice la n lc,.slice a1 v.length cc1,.slice none 0 0,.map (some w1.heap.size)] 217)).heap.size):=zH (by simp);generalize ((w1.alloc _).alloc _)=w3 at*;obtain ⟨g,hg⟩:∃ g,g=w1.heap.size+1:=⟨_,rfl⟩;rw [<-hg] at BW ZW ⊢;have HW:Hid (Wt (fun b=>b=g\/b=w1.heap.size) w.heap.size w3 g l v [] (fun _ _=>[])):=zH ⟨_,_,_,w1.heap.size,_,[],⟨BW.o,gI.nil _ _,by have:=G1.o.size;omega⟩,Vs,fE _,Sq.agree HL.o fun b hb=>(GW.o.block b (ay hb G1.o.size)).trans (G1.o.block b hb),O1.o.below GW.o (ah _),MX.o,
  fun d=>by rw [show rowOf (fun _ _=>[]) d=[] by unfold rowOf;split<;>rfl];exact gI.nil _ _,fun d e k h=>Gp h,fun d k h=>Gp h,.inl rfl,.inr rfl,fun k h=>Gp h,fun d k h=>Gp h,fun k h=>by have:=ZW.o;have:=G1.o.size;omega,by have:=GW.o.size;have:=G1.o.size;omega,fun k hk h=>by have:=(O1.o.lt k hk).2;omega⟩
 have OW:=zH (jH.start l v);have G3:Hid (Below w.heap.size w w3):=zH (G1.o.trans (GW.o.mono G1.o.size));clear MW BW GW MX ZW O1 G1 hg hmm;go_wp2_with fail
 go_loopw [18] (fun i wr=>∃ k:Nat,k<=n/\i= .int .i64 k/\Aside (∃ F' H' Bh',Wt F' w.heap.size wr g l v H' Bh'/\jH l v (List.replicate l.length false) H' Bh' ((List.range l.length).drop k)/\Below w.heap.size w wr)) (fun i _=>n-(intOf i).toNat)
 case atStart=>exact ⟨0,aL _,rfl,_,_,_,HW.o,OW.o,G3.o⟩
 case round=>
  obtain ⟨k,hk,rfl,hrel⟩:=hrel;obtain ⟨F1,H1,B1,w1',o1,g1⟩:=Aside.out hrel;have W1:=zH w1';have OO1:=zH o1;have GG1:=zH g1;clear hrel w1' o1 g1
  by_cases hlt:k<n
  ·obtain ⟨lv',hv',rv',m',V',hs',h1⟩:=W1.o
   have hkl:k<l.length:=by rw [<-Iq.o];exact hlt
   have KW:=zH (Ry (p:=k) (Q:=(List.range l.length).drop (k+1)) h1 (by have:=OO1.o;rw [fH (by simpa using hkl)] at this;simpa using this) hl HF.o hvl);have HH1:=zH h1;have hk1:(k:Int)<n:=by omega
   clear h1 hkl;go_wp2_with (go_at_call 203;refine KW.o.mono ?_;rintro e w7 ⟨rfl,F7,H7,B7,rv7,V7,hs7,w7',o7,f7,y7⟩;have R7:=zH (cK w7'.is (cK o7 (GG1.o.trans (f7.below HH1.o.is))));clear w7' o7 f7 y7 KW)
   go_roundw
   case rel=>exact ⟨k+1,by omega,by go_num,_,_,_,R7.o⟩
   case measure=>simp [intOf];omega
  ·obtain rfl:k=n:=by omega
   have OO2:Hid (jH l v (List.replicate l.length false) H1 B1 []):=zH (by have:=OO1.o;rw [Iq.o] at this;rw [show ((List.range l.length).drop l.length)=[] by simp] at this;exact this);have KN:=zH (RI W1.o OO2.o hl HF.o hvl);clear OO1;go_wp2_with (go_at_call 204;refine KN.o.mono ?_;intro e w2 hx;obtain ⟨p0,b0,F2,rfl,hR⟩:=CO hx W1.o (qd.nil _ _ _) (show kH v l=[]++kH v (nC (List.replicate l.length false) l) by rw [Ei,bJ]) rfl GG1.o hvl;have R0:=zH hR;clear hx hR KN)
   clear W1 OO2 GG1
   go_loopg [8,9,10] l.length (fun gg tv s9 s10 wr=>∃ (p:Nat) (b:Bool) (gm:List Bool) (a:List fI) (F:Nat ->Prop) (u:Ints),s9= .int .i64 p/\s10= .bool b/\Aside (W9 l v w.heap.size g w tv p b gm wr F a u/\(nC gm l).length<=gg))
   case atStart=>exact ⟨p0,b0,_,_,_,_,rfl,rfl,R0.o,by rw [Ei];exact ah _⟩
   case round=>
    obtain ⟨p,b,gm,a,F,u,rfl,rfl,hrel⟩:=hrel;obtain ⟨hR,hgg⟩:=Aside.out hrel;have R:=zH hR;have HGG:=zH hgg;obtain ⟨ta,tc,rfl,-,-,-⟩:=hR.taken.row.at a.length rfl;clear hrel hR hgg R0
    cases b
    ·obtain ⟨B2,o2,w2⟩:=R.o.no rfl
     have qb:Hid (kH v l=a):=zH (by rw [R.o.all,Vt o2.done,aV]);obtain ⟨lv2,hv2,rv2,m2,V2,hs2,k2⟩:=w2;obtain ⟨⟨-,b1,-,-⟩,-,-⟩:=k2.hp.cell;have SV:=zH k2.Zb;have SVN:=zH ((Xa k2.vec).new gU);obtain ⟨xa,xc,rfl,-,-,-,-⟩:=fM.parts k2.Zb;have SA:Hid (Sq gV (fun b=>w.heap.size<=b/\b<wr.heap.size) wr (.slice ta a.length tc) a):=zH ((R.o.taken.row.imp fun b h=>h.2).sq fun b h _=>h);have GB:=zH R.o.low;have HLAST:=zH R.o.last;clear k2 o2 R;go_wp2_with fail
     go_quiet (fail)
     go_wp2_with fail
     go_ret2
     exact ⟨_,_,rfl,by rw [qb.o];exact RA SA.o _,by rw [qb.o,<-HLAST.o];exact RA SVN.o _,below_drewN GB.o _⟩
    ·obtain ⟨H2,B2,hp,o2,mn,rdy,w2⟩:=R.o.yes rfl
     have O2:=zH o2;have W2:=zH w2;have RDY:=zH rdy;have FST:=zH (o2.first mn rdy);have AL:=zH (RH R.o.all);have hft:=HF.o (jr l p) (by rw [kX hp];exact aU hp);obtain ⟨lb,lo,lc',hsl,-,L6,hc⟩:=xD (B:=w.heap.size) HL.o (ah _) (by omega);simp only [aC] at hsl
     obtain ⟨rfl,rfl,rfl⟩:=hsl;obtain ⟨da,dn,dc,ea,en,ec,TA,IT⟩:=hc p hp;have WI:=zH (fun W (hb:Below w.heap.size w W)=>TA.below hb TA.lt);have HIT:=zH (fun W (hb:Below w.heap.size w W)=>IT.below hb);have KA:=zH (Zf (HIT.o wr R.o.low) hft.deps hft.effs hft.drops);obtain ⟨c0,c1,c2,c3⟩:=WI.o wr R.o.low;have hp1:(p:Int)<l.length:=by omega
     have hp2:(l.length:Int)<=lc:=by omega
     have hp3:(lc:Int)<=9223372036854775807:=by omega
     have HN8:Hid ((gZ u (jr l p)).length<=1000000):=zH (by have:=tu u (jr l p);have:=R.o.len;omega);clear TA IT hc o2 mn rdy w2 hft hp;have WZ:Hid (∃ t,t=jr l p):=zH ⟨_,rfl⟩;obtain ⟨t,hT⟩:=WZ.o;rw [<-hT] at c0 c1 WI HIT KA RDY FST HN8;have HT2:=zH hT;clear hT WZ;have FL:=zH W2.o.low.1;have HGI:Hid (∀ k,Value.ownBlock (.slice ta a.length tc)=some k ->k<wr.heap.size):=zH (fun k hk=>(R.o.taken.row.lt k hk).2);go_wp2_with (first
      |(go_at_call 205;refine KA.o.mono ?_;rintro e w3 ⟨dv,ev,rfl,sd,se,hb3⟩;have SD:=zH sd;have SE:=zH se;have Ve:=zH hb3;obtain ⟨ya,yc,rfl,-,-,-,-⟩:=fM.parts (L:=gL) (sd.mono fun b hb=>hb.2);obtain ⟨za,zc,rfl,-,-,-,-⟩:=fM.parts (L:=jo) (se.mono fun b hb=>hb.2);have T3:=zH (R.o.taken.to (Aq.of hb3));have W3:=zH (W2.o.below hb3);clear sd se hb3 KA)
      |(at_builtin;refine kE (fun b=>¬ F b/\w.heap.size<=b) gV rfl (.tmp 33) (.tmp 39) rfl w.heap.size rfl (T3.o.row.alloc _) rfl (Jg (x:=t) (C:=wr.heap.size) (N:=wr.heap.size) SD.o SE.o HGI.o Ve.o.size (ah _)) (fun vs x h=>gV.mono h fun b hb=>⟨⟨fun f=>by have:=(FL.o b f).2;have:=hb.1;omega,by have:=hb.1;have:=W2.o.low.2;omega⟩,hb.2⟩) (by have:=AL.o;simp;omega) (by have:=Ve.o.size;have:=W2.o.low.2;simp;omega) ?_))
     intro v4 w4 ho4 hg4 hat4;have BA:Hid (Below w3.heap.size w3 (w3.alloc (.cells #[.int .i64 t.node,.int .i64 t.seq,.slice ya t.deps.length yc,.slice za t.effs.length zc] 82))):=zH ((aj _ _).alloc (ah _) _);have TA4:=zH (T3.o.to (Aq.of BA.o));have W4:=zH ((W3.o.below BA.o).grown TA4.o hg4);have T4:Hid (qd F w.heap.size w4 v4 (a++[t])):=zH ⟨ho4,fun k hk f=>by
      rcases hat4 with e|e
      ·rw [e] at hk;exact T3.o.o k hk f
      ·rw [e] at hk;cases hk;have h1:=(W3.o.low.1 _ f).2;have h2:=BA.o.size;omega⟩
     have G4:Hid (Below w.heap.size w w4):=zH (((R.o.low.trans (Ve.o.mono R.o.low.size)).trans (BA.o.mono (ak R.o.low.size Ve.o.size))).grown hg4 (by have:=BA.o.size;have:=Ve.o.size;have:=R.o.low.size;omega) fun k hk=>(T3.o.row.lt k hk).1);obtain ⟨t4,x4,rfl,-,-,-⟩:=ho4.at (a++[t]).length rfl;obtain ⟨c0,c1,c2,c3⟩:=WI.o w4 G4.o;have KH:=zH (hear_any (p:=p) W4.o O2.o (by rw [<-HT2.o];exact RDY.o) (by have h4:=HIT.o w4 G4.o;rw [HT2.o] at h4;exact h4) hl HF.o R.o.len);rw [<-HT2.o] at KH;clear ho4 hg4 hat4;go_wp2_with (first
      |(go_at_call 206;refine KH.o.mono ?_;rintro e w5 ⟨rfl,F5,H5,B5,w5',o5,f5⟩;rw [<-HT2.o] at w5' o5;have W5:=zH w5';have O5:=zH o5;have T5:=zH (T4.o.to f5);have G5:=zH (G4.o.trans (f5.below W4.o));have KN5:=zH (RI w5' o5 hl HF.o HN8.o);clear w5' o5 f5 KH)
      |(go_at_call 204;refine KN5.o.mono ?_;intro e w6 hx;obtain ⟨p6,b6,F6,rfl,hR6⟩:=CO hx W5.o T5.o (show kH v l=(a++[t])++kH (gZ u t) (nC (gm.set p true) l) by rw [R.o.all,Vu FST.o,aY];rfl) (show gZ u t=jd v (a++[t]) by rw [Ab,<-R.o.last]) G5.o HN8.o;have R6:=zH hR6;clear hx hR6 KN5))
     have hm:=Vv FST.o
     go_roundg (nC (gm.set p true) l).length
     case measure=>have:=HGG.o;omega
     case rel=>
      have R7:=R6.o;rw [show (a++[t]).length=a.length+1 by simp] at R7;exact ⟨p6,b6,gm.set p true,a++[t],F6,gZ u t,rfl,rfl,R7,ah _⟩
end Go.Proofs.YtfgcodcablpdcaaGreat
set_option maxRecDepth 100000
set_option maxHeartbeats 64000000
namespace Go.Proofs.YtfgcodcablpdcaaGreat
open Go.Proofs.Tryz
open Go.RowKit Plain
theorem CP{w:World}{la:Option Addr}{n lc:Nat}{l:List fI}(h:fM gV w (.slice la n lc) l)(hp:0<n):∃ lb lo,la=some ⟨lb,lo,none⟩/\∀ k,k<n ->∃ da dn dc ea en ec,∀ W,Below w.heap.size w W ->
  (W.cell? ⟨lb,lo+k*4,none⟩=some (.int .i64 (jr l k).node)/\W.cell? ⟨lb,lo+k*4+1,none⟩=some (.int .i64 (jr l k).seq)/\W.cell? ⟨lb,lo+k*4+2,none⟩=some (.slice da dn dc)/\W.cell? ⟨lb,lo+k*4+3,none⟩=some (.slice ea en ec))/\
   kN W (.agg #[.int .i64 (jr l k).node,.int .i64 (jr l k).seq,.slice da dn dc,.slice ea en ec]) (jr l k):=by
 have hd:=h.iY.1;obtain ⟨lb,lo,lc',hsl,-,-,hc⟩:=xD (B:=w.heap.size) h (ah _) (by omega);simp only [aC] at hsl
 obtain ⟨rfl,-,-⟩:=hsl;refine ⟨lb,lo,rfl,fun k hk=> ?_⟩;obtain ⟨da,dn,dc,ea,en,ec,TA,IT⟩:=hc k (by omega);refine ⟨da,dn,dc,ea,en,ec,fun W hb=>⟨?_,IT.below hb⟩⟩;have T:=TA.below hb TA.lt;exact ⟨T.c0,T.c1,T.c2,T.c3⟩
theorem otx_fit{l:List fI}(hf:∀ t∈l,Dp t){k:Nat}(hk:k<l.length):Dp (jr l k):=hf _ (by rw [kX hk];exact aU hk)
theorem chain_go{v u:Ints}{l:List fI}{k:Nat}(hk:k<l.length)(h:gX v (l.take k)=true)(hu:u=jd v (l.take k))(hr:gY u (jr l k)=true):gX v (l.take (k+1))=true/\gZ u (jr l k)=jd v (l.take (k+1)):=by
 subst hu;rw [kX hk] at hr ⊢;have:=RJ hk h hr;exact ⟨this.1,this.2.symm⟩
theorem chain_no{v u:Ints}{l:List fI}{k:Nat}(hk:k<l.length)(h:gX v (l.take k)=true)(hu:u=jd v (l.take k))(hr:¬ gY u (jr l k)=true):gX v l=false:=by
 subst hu;rw [kX hk] at hr;exact Od hk h hr
theorem Ij{vv lv:Value}{v:Ints}{l:List fI}{w:World}(hv:gQ w vv v)(hlv:fM gV w lv l)(hl:l.length<=1000000)(hf:∀ t∈l,Dp t)(hvl:v.length<=1000000):
  Calls prog 86 #[vv,lv] w (fO w (gX v l)):=by
 obtain ⟨la,lc,rfl,L1,L2,-,-⟩:=hlv.parts;have HL:=zH hlv;have HF:=zH hf;have HV:=zH hv;obtain ⟨n,hn⟩:∃ n,n=l.length:=⟨_,rfl⟩;have Iq:=zH hn;rw [<-hn] at HL L1 ⊢;obtain ⟨va,vc,rfl,-,-,-,-⟩:=hv.parts;clear hv hlv hf hn;go_enter func86,ntmps86
 go_wp2_with fail
 go_loopw [0,9] (fun s0 i wr=>∃ (k:Nat) (u:Ints),k<=n/\i= .int .i64 k/\gQ wr s0 u/\Aside (gX v (l.take k)=true/\u=jd v (l.take k)/\u.length<=1000000/\Below w.heap.size w wr)) (fun _ i _=>n-(intOf i).toNat)
 case atStart=>exact ⟨0,v,aL _,rfl,HV.o,rfl,rfl,hvl,aj _ _⟩
 case round=>
  obtain ⟨k,u,hk,rfl,hs,hrel⟩:=hrel;obtain ⟨h1,h2,h3,h4⟩:=Aside.out hrel;have C1:=zH h1;have C2:=zH h2;have C3:=zH h3;have GB:=zH h4;have SU:=zH hs;obtain ⟨ua,uc,rfl,-,-,-,-⟩:=hs.parts;clear hrel h1 h2 h3 h4 hs
  by_cases hlt:k<n
  ·have hkl:k<l.length:=by rw [<-Iq.o];exact hlt
   obtain ⟨lb,lo,rfl,hc⟩:=CP HL.o (by omega);obtain ⟨da,dn,dc,ea,en,ec,hW⟩:=hc k hlt;have hft:=otx_fit HF.o hkl;have GO:=zH (chain_go hkl C1.o C2.o);have NO:=zH (chain_no hkl C1.o C2.o);have NL:Hid ((gZ u (jr l k)).length<=1000000):=zH (by have:=tu u (jr l k);have:=C3.o;omega);have KR:=zH (fun W (hb:Below wr.heap.size wr W)=>Fa (SU.o.below hb) (hW W (GB.o.trans (hb.mono GB.o.size))).2 C3.o hft.deps hft.small);have KN:=zH (fun W (hb:Below wr.heap.size wr W)=>xw (SU.o.below hb) (hW W (GB.o.trans (hb.mono GB.o.size))).2 C3.o);have HC:=zH (fun W (hb:Below w.heap.size w W)=>(hW W hb).1);obtain ⟨c0,c1,c2,c3⟩:=HC.o wr GB.o;have k1:(k:Int)<n:=by omega
   have k2:(n:Int)<=lc:=by omega
   have k3:(lc:Int)<=9223372036854775807:=by omega
   clear hc hW hft hkl;generalize jr l k=t at*;obtain ⟨r,hr⟩:∃ r,r=gY u t:=⟨_,rfl⟩;rw [<-hr] at KR GO NO;clear hr;have hbe:=zB wr (.cells #[.int .i64 t.node,.int .i64 t.seq,.slice da dn dc,.slice ea en ec] 82);have BE:=zH hbe;have BX:=zH (aM wr (.cells #[.int .i64 t.node,.int .i64 t.seq,.slice da dn dc,.slice ea en ec] 82));clear hbe;go_upto_region 4 with fail
   clear c0 c1 c2 c3;generalize (wr.alloc _)=wd at*;have d0:wd.cell? ⟨wr.heap.size,0,none⟩=some (.int .i64 t.node):=cell_of_row _ _ 0 _ _ _ BX.o;have d1:wd.cell? ⟨wr.heap.size,1,none⟩=some (.int .i64 t.seq):=cell_of_row _ _ 1 _ _ _ BX.o;have d2:wd.cell? ⟨wr.heap.size,2,none⟩=some (.slice da dn dc):=cell_of_row _ _ 2 _ _ _ BX.o;have d3:wd.cell? ⟨wr.heap.size,3,none⟩=some (.slice ea en ec):=cell_of_row _ _ 3 _ _ _ BX.o;have KR2:=zH (KR.o wd BE.o)
   cases r
   ·have HA:=zH (NO.o (by simp))
    go_wp2_with (go_at_call 162;refine KR2.o.mono ?_;rintro e w2 ⟨rfl,hb2⟩;have H2:=zH hb2;clear hb2)
    go_ret
    exact ⟨by rw [HA.o];rfl,GB.o.trans ((BE.o.trans (H2.o.mono BE.o.size)).mono GB.o.size)⟩
   ·have GG:=zH (GO.o rfl)
    go_wp2_with (first
     |(go_at_call 162;refine KR2.o.mono ?_;rintro e w2 ⟨rfl,hb2⟩;have H2:=zH (BE.o.trans (hb2.mono BE.o.size));have BX2:=zH ((hb2.block _ (aH.1 BX.o).1).trans BX.o);have q0:w2.cell? ⟨wr.heap.size,0,none⟩=some (.int .i64 t.node):=cell_of_row _ _ 0 _ _ _ BX2.o;have q1:w2.cell? ⟨wr.heap.size,1,none⟩=some (.int .i64 t.seq):=cell_of_row _ _ 1 _ _ _ BX2.o;have q2:w2.cell? ⟨wr.heap.size,2,none⟩=some (.slice da dn dc):=cell_of_row _ _ 2 _ _ _ BX2.o;have q3:w2.cell? ⟨wr.heap.size,3,none⟩=some (.slice ea en ec):=cell_of_row _ _ 3 _ _ _ BX2.o;have KN2:=zH (KN.o w2 H2.o);clear hb2 KR2 d0 d1 d2 d3)
     |(go_at_call 88;refine KN2.o.mono ?_;rintro e w3 ⟨v3,rfl,ho3,hb3⟩;have S3:=zH ho3.seq;have H3:=zH (H2.o.trans (hb3.mono H2.o.size));clear ho3 hb3 KN2))
    go_roundw
    case rel=>exact ⟨k+1,_,by omega,by go_num,S3.o,GG.o.1,GG.o.2,NL.o,GB.o.trans (H3.o.mono GB.o.size)⟩
    case measure=>simp [intOf];omega
  ·obtain rfl:k=n:=by omega
   have HA:Hid (gX v l=true):=zH (by have:=C1.o;rw [Iq.o,bq] at this;exact this);go_wp2_with fail
   go_ret
   exact ⟨by rw [HA.o];rfl,GB.o⟩
theorem same_all{xs ys:List fI}(h:xs.length=ys.length)(e:∀ j,j<xs.length ->jr xs j=jr ys j):xs=ys:=by
 apply bT h
 intro i h1 h2;have:=e i h1;rw [kX h1,kX h2] at this;exact this
theorem RO{uv vv:Value}{xs ys:List fI}{w:World}(hu:fM gV w uv xs)(hv:fM gV w vv ys)(hl:xs.length<=1000000):
  Calls prog 94 #[uv,vv] w (fO w (decide (xs=ys))):=by
 obtain ⟨la,lc,rfl,L1,L2,-,-⟩:=hu.parts;obtain ⟨ma,mc,rfl,M1,M2,-,-⟩:=hv.parts;have HU:=zH hu;have HV:=zH hv
 by_cases hne:xs.length=ys.length
 ·obtain ⟨n,hn⟩:∃ n,n=xs.length:=⟨_,rfl⟩
  rw [<-hne] at HV M1 ⊢;rw [<-hn] at HU HV L1 M1 ⊢;have xA:=zH hne;have Iq:=zH hn;clear hu hv hn hne;go_enter func94,ntmps94
  go_wp2_with fail
  go_loopw [5] (fun i wr=>∃ k:Nat,k<=n/\i= .int .i64 k/\Aside ((∀ j,j<k ->jr xs j=jr ys j)/\Below w.heap.size w wr)) (fun i _=>n-(intOf i).toNat)
  case atStart=>exact ⟨0,aL _,rfl,fun j hj=>absurd hj (Nat.not_lt_zero _),aj _ _⟩
  case round=>
   obtain ⟨k,hk,rfl,hrel⟩:=hrel;obtain ⟨h1,h2⟩:=Aside.out hrel;have A1:=zH h1;have GB:=zH h2;clear hrel h1 h2
   by_cases hlt:k<n
   ·obtain ⟨lb,lo,rfl,hc⟩:=CP HU.o (by omega)
    obtain ⟨mb,mo,rfl,hc2⟩:=CP HV.o (by omega);obtain ⟨da,dn,dc,ea,en,ec,hW⟩:=hc k hlt;obtain ⟨da2,dn2,dc2,ea2,en2,ec2,hW2⟩:=hc2 k hlt;have AN:Hid (jr xs k=jr ys k ->∀ j,j<k+1 ->jr xs j=jr ys j):=zH (fun e j hj=>by
     by_cases c:j=k
     ·rw [c];exact e
     ·exact A1.o j (by omega))
    have AF:Hid (¬ jr xs k=jr ys k ->decide (xs=ys)=false):=zH (fun e=>aF fun h=>e (by rw [h]));have KE:Hid (∀ u,Below wr.heap.size wr u ->Below wr.heap.size wr u/\(u.cell? ⟨lb,lo+k*4,none⟩=some (.int .i64 (jr xs k).node)/\u.cell? ⟨lb,lo+k*4+1,none⟩=some (.int .i64 (jr xs k).seq)/\u.cell? ⟨lb,lo+k*4+2,none⟩=some (.slice da dn dc)/\u.cell? ⟨lb,lo+k*4+3,none⟩=some (.slice ea en ec))/\u.cell? ⟨mb,mo+k*4,none⟩=some (.int .i64 (jr ys k).node)/\u.cell? ⟨mb,mo+k*4+1,none⟩=some (.int .i64 (jr ys k).seq)/\u.cell? ⟨mb,mo+k*4+2,none⟩=some (.slice da2 dn2 dc2)/\u.cell? ⟨mb,mo+k*4+3,none⟩=some (.slice ea2 en2 ec2)):=zH (fun u hb=>⟨hb,(hW u (GB.o.trans (hb.mono GB.o.size))).1,(hW2 u (GB.o.trans (hb.mono GB.o.size))).1⟩);have KS:=zH (fun u (hb:Below wr.heap.size wr u)=>rsameTx (hW u (GB.o.trans (hb.mono GB.o.size))).2 (hW2 u (GB.o.trans (hb.mono GB.o.size))).2 _ rfl);have k1:(k:Int)<n:=by omega
    have k2:(n:Int)<=lc:=by omega
    have k3:(lc:Int)<=9223372036854775807:=by omega
    have k4:(n:Int)<=mc:=by omega
    have k5:(mc:Int)<=9223372036854775807:=by omega
    clear hc hc2 hW hW2;generalize jr xs k=x at*;generalize jr ys k=y at*;go_upto_region 6 with fail
    obtain ⟨r,hr⟩:∃ r,r=decide (x=y):=⟨_,rfl⟩;rw [<-hr] at KS;have HR:=zH hr;clear hr;refine wp_region_held_drew (S:=fun u'=>Below wr.heap.size wr u'/\(u'.cell? ⟨lb,lo+k*4,none⟩=some (.int .i64 x.node)/\u'.cell? ⟨lb,lo+k*4+1,none⟩=some (.int .i64 x.seq)/\u'.cell? ⟨lb,lo+k*4+2,none⟩=some (.slice da dn dc)/\u'.cell? ⟨lb,lo+k*4+3,none⟩=some (.slice ea en ec))/\u'.cell? ⟨mb,mo+k*4,none⟩=some (.int .i64 y.node)/\u'.cell? ⟨mb,mo+k*4+1,none⟩=some (.int .i64 y.seq)/\u'.cell? ⟨mb,mo+k*4+2,none⟩=some (.slice da2 dn2 dc2)/\u'.cell? ⟨mb,mo+k*4+3,none⟩=some (.slice ea2 en2 ec2)) (by kernel_rfl) ?_ (fun hH=> ?_)
    ·(exact KE.o _ (aj _ _).drew)
    simp only [zS,aJ,Nat.reduceAdd]
    refine fJ 0 hH ?_;refine fJ 1 hH ?_;refine fJ 2 hH ?_;refine fJ 3 hH ?_;refine fJ 4 hH ?_;refine fJ 5 hH ?_;refine fJ 6 hH ?_;refine fJ 7 hH ?_;refine rd 8 fun K hK=> ?_
    go_simp
    refine (KS.o _ hH.1).mono ?_;rintro e s1 ⟨rfl,hb⟩;refine hK.out _ _ (KE.o _ (iM hH hb)) (fun hH=> ?_);clear hK K hb;refine fJ 9 hH ?_;refine wpAnyH_done (by kernel_rfl) ?_ _;have GZ:Hid (Below w.heap.size w _):=zH (GB.o.trans (hH.1.mono GB.o.size));clear hH
    cases r
    ·have HF:=zH (AF.o fun e=>by have:=HR.o;rw [aI e] at this;cases this)
     go_wp2_with fail
     go_ret
     exact ⟨by rw [HF.o];rfl,GZ.o⟩
    ·have HA:=zH (AN.o (bR HR.o.symm))
     go_wp2_with fail
     go_roundw
     case rel=>exact ⟨k+1,by omega,by go_num,HA.o,GZ.o⟩
     case measure=>simp [intOf];omega
   ·obtain rfl:k=n:=by omega
    have HA:Hid (decide (xs=ys)=true):=zH (aI (same_all xA.o fun j hj=>A1.o j (by rw [Iq.o];exact hj)));go_wp2_with fail
    go_ret
    exact ⟨by rw [HA.o];rfl,GB.o⟩
 ·have HF:Hid (decide (xs=ys)=false):=zH (aF fun e=>hne (by rw [e]))
  have bne:((xs.length:Int) !=(ys.length:Int))=true:=by simp;omega
  clear hu hv;go_enter func94,ntmps94
  go_wp2_with fail
  go_ret
  exact ⟨by rw [HF.o];rfl,aj _ _⟩
end Go.Proofs.YtfgcodcablpdcaaGreat