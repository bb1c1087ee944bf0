import Derived.Test.YtfgcodcablpdcaaGreatEls
import Derived.Laws.Cover1
import Derived.Sort.Walk0
import Derived.Test.YtfgcodcablpdcaaGreatByBins
import Derived.Lib.SmallJoins
set_option linter.unusedVariables false
namespace Go.Proofs.YtfgcodcablpdcaaGreat
open Go.Proofs.Tryz
open Go.RowKit Plain
def bt(t:iE):ByteArray:=⟨t.toArray⟩
def tx(s:ByteArray):iE:=s.data.toList
theorem bt_tx(s:ByteArray):bt (tx s)=s:=rfl
theorem nZ(t:iE):(bt t).size=t.length:=rfl
def tv(t:iE):Value:= .string (bt t)
def kD(w:World)(v:Value)(xs:List iE):Prop:=
 ∃ a cap,v= .slice a xs.length cap/\xs.length<=cap/\cap<=maxLen/\(a=none ->cap=0)/\
  (0<xs.length ->∃ b off,a=some ⟨b,off,none⟩/\∀ j,j<xs.length ->w.cell? ⟨b,off+j,none⟩=some (tv (xs.getD j [])))
theorem kD.nil(w:World):kD w (.slice none 0 0) []:=⟨none,0,rfl,aL _,aL _,fun _=>rfl,fun h=>absurd h (by simp)⟩
theorem kD.empty(w:World)(a:Addr)(cap:Nat)(h:cap<=maxLen):kD w (.slice (some a) 0 cap) []:=⟨some a,cap,rfl,aL _,h,(by simp),fun h=>absurd h (by simp)⟩
theorem kD.of_cell{w w':World}{v:Value}{xs:List iE}(h:kD w v xs)(hc:∀ a,w'.cell? a=w.cell? a):kD w' v xs:=by
 obtain ⟨a,cap,rfl,h1,h2,h0,h3⟩:=h;refine ⟨a,cap,rfl,h1,h2,h0,fun hp=> ?_⟩;obtain ⟨b,off,rfl,g⟩:=h3 hp;exact ⟨b,off,rfl,fun j hj=>(hc _).trans (g j hj)⟩
theorem kD.below'{N:Nat}{w w':World}{v:Value}{xs:List iE}(h:kD w v xs)(hb:Below N w w')(hN:w.heap.size<=N):kD w' v xs:=by
 obtain ⟨a,cap,rfl,h1,h2,h0,h3⟩:=h;refine ⟨a,cap,rfl,h1,h2,h0,fun hp=> ?_⟩;obtain ⟨b,off,rfl,hc⟩:=h3 hp;refine ⟨b,off,rfl,fun j hj=> ?_⟩;have hlt:b<w.heap.size:=aG w ⟨b,off+j,none⟩ (hc j hj);exact (hb.cell (p:=⟨b,off+j,none⟩) (show b<N by omega)).trans (hc j hj)
theorem kD.below{w w':World}{v:Value}{xs:List iE}(h:kD w v xs)(hb:Below w.heap.size w w'):kD w' v xs:=kD.below' h hb (ah _)
theorem kD.iB{w:World}{v:Value}{xs:List iE}(h:kD w v xs)(o:Obj):kD (w.alloc o) v xs:=h.below ((aj _ _).alloc (ah _) _)
theorem kD.parts{w:World}{v:Value}{xs:List iE}(h:kD w v xs):∃ a cap,v= .slice a xs.length cap/\xs.length<=cap/\cap<=maxLen/\(a=none ->cap=0)/\kD w (.slice a xs.length cap) xs:=by
 have h':=h;obtain ⟨a,cap,rfl,h1,h2,h0,h3⟩:=h;exact ⟨a,cap,rfl,h1,h2,h0,h'⟩
theorem kD.spot{w:World}{v:Value}{xs:List iE}(h:kD w v xs)(hp:0<xs.length):∃ b o cap,v= .slice (some ⟨b,o,none⟩) xs.length cap/\xs.length<=cap/\cap<=maxLen/\kD w (.slice (some ⟨b,o,none⟩) xs.length cap) xs/\∀ j,j<xs.length ->w.cell? ⟨b,o+j,none⟩=some (tv (xs.getD j [])):=by
 have h':=h;obtain ⟨a,cap,rfl,h1,h2,h0,h3⟩:=h;obtain ⟨b,o,rfl,hc⟩:=h3 hp;exact ⟨b,o,cap,rfl,h1,h2,h',hc⟩
theorem kD.first{w:World}{a:Option Addr}{n cap:Nat}{xs:List iE}(h:kD w (.slice a n cap) xs)(k:Nat)(hk:k<=xs.length):kD w (.slice a k cap) (xs.take k):=by
 obtain ⟨a',cap',hv,h1,h2,h0,h3⟩:=h;simp only [aC] at hv
 obtain ⟨rfl,rfl,rfl⟩:=hv;have hl:(xs.take k).length=k:=by rw [aO];omega
 refine ⟨a,cap,by rw [hl],by omega,h2,h0,fun hp=> ?_⟩;obtain ⟨b,off,rfl,hc⟩:=h3 (by omega);refine ⟨b,off,rfl,fun j hj=> ?_⟩;rw [hc j (by omega)];simp [List.getD,show j<k by omega]
def jO(B:Nat)(w:World)(v:Value)(xs:List iE):Prop:=w.ownsRow B 9 1 v xs.length (xs.map tv)
theorem jO.nil(B:Nat)(w:World):jO B w (.slice none 0 0) []:=World.ownsRow_nil _ _ _ _
theorem Lg(xs:List iE)(j:Nat)(hj:j<xs.length):(xs.map tv)[j]? =some (tv (xs.getD j [])):=by
 simp [List.getD,List.getElem?_eq_getElem hj]
theorem jO.seq{B:Nat}{w:World}{v:Value}{xs:List iE}(h:jO B w v xs):kD w v xs:=by
 have h':=h
 rcases h.2 with ⟨rfl,hn⟩|⟨g,cap,cur,rfl,hb,hg,hnc,hcm,hcs,htake⟩
 ·obtain rfl:xs=[]:=aK hn
  exact kD.nil w
 ·refine ⟨_,cap,rfl,hnc,hcm,(by simp),fun hp=>⟨g,0,rfl,fun j hj=> ?_⟩⟩
  have:=bI h' j (by omega);rw [aJ,this,Lg xs j hj]
theorem jO.parts{B:Nat}{w:World}{v:Value}{xs:List iE}(h:jO B w v xs):∃ a cap,v= .slice a xs.length cap/\xs.length<=cap/\cap<=maxLen/\jO B w (.slice a xs.length cap) xs/\(a=none ->cap=0):=by
 obtain ⟨a,cap,rfl,h1,h2,h0,hs⟩:=h.seq.parts;exact ⟨a,cap,rfl,h1,h2,h,h0⟩
theorem jO.lt{B:Nat}{w:World}{v:Value}{xs:List iE}(h:jO B w v xs):∀ k,v.ownBlock=some k ->B<=k/\k<w.heap.size:=fG h
theorem jO.alloc{B:Nat}{w:World}{v:Value}{xs:List iE}(h:jO B w v xs)(o:Obj):jO B (w.alloc o) v xs:=World.ownsRow.alloc h o
theorem jO.mono{B C:Nat}{w:World}{v:Value}{xs:List iE}(h:jO B w v xs)(hc:C<=B):jO C w v xs:=by
 refine ⟨h.1,?_⟩
 rcases h.2 with hn|⟨g,cap,cur,hv,hb,hg⟩
 ·exact .inl hn
 ·exact .inr ⟨g,cap,cur,hv,by omega,hg⟩
theorem jO.below{B N:Nat}{w w':World}{v:Value}{xs:List iE}(h:jO B w v xs)(hb:Below N w w')(hN:w.heap.size<=N):jO B w' v xs:=by
 refine ⟨h.1,?_⟩
 rcases h.2 with hn|⟨g,cap,cur,hv,hb',hg,hr⟩
 ·exact .inl hn
 ·have hlt:g<w.heap.size:=(aH.1 hg).1
  exact .inr ⟨g,cap,cur,hv,hb',(hb.block g (by omega)).trans hg,hr⟩
theorem jO.empty(w:World)(B:Nat)(hB:B<=w.heap.size):jO B (w.alloc (.cells #[] 9)) (.slice (some ⟨w.heap.size,0,none⟩) 0 0) []:=
 eG w #[] 0 hB (aL _) rfl
theorem jO.one(w:World)(B:Nat)(x:iE)(hB:B<=w.heap.size):jO B (w.alloc (.cells #[tv x] 9)) (.slice (some ⟨w.heap.size,0,none⟩) 1 1) [x]:=
 eG w #[tv x] 1 hB (by unfold maxLen;omega) rfl
theorem kD.one(w:World)(x:iE):kD (w.alloc (.cells #[tv x] 9)) (.slice (some ⟨w.heap.size,0,none⟩) 1 1) [x]:=
 (jO.one w w.heap.size x (ah _)).seq
def MadeT(w:World)(xs:List iE)(e:Ending)(w':World):Prop:=∃ v,e= .returned v/\jO w.heap.size w' v xs/\Below w.heap.size w w'
theorem kD.iY{w:World}{a:Option Addr}{n cap:Nat}{xs:List iE}(h:kD w (.slice a n cap) xs):xs.length=n/\n<=cap/\cap<=9223372036854775807:=by
 obtain ⟨a',cap',hv,h1,h2,-,-⟩:=h;simp only [aC] at hv
 obtain ⟨rfl,rfl,rfl⟩:=hv;exact ⟨rfl,h1,h2⟩
theorem jO.cell{B:Nat}{w:World}{g n cap:Nat}{xs:List iE}(h:jO B w (.slice (some ⟨g,0,none⟩) n cap) xs)(j:Nat)(hj:j<xs.length):w.cell? ⟨g,j,none⟩=some (tv (xs.getD j [])):=by
 have hn:=h.seq.iY.1;have h':w.ownsRow B 9 1 (.slice (some ⟨g,0,none⟩) n cap) n (xs.map tv):=by rw [<-hn];unfold jO at h;rw [<-hn] at h;exact h
 rw [bI h' j (by omega),Lg xs j hj]
theorem jO.at{B:Nat}{w:World}{v:Value}{xs:List iE}(h:jO B w v xs)(n:Nat)(hn:xs.length=n):∃ a cap,v= .slice a n cap/\(n:Int)<=cap/\(cap:Int)<=9223372036854775807/\jO B w (.slice a n cap) xs:=by
 subst hn;obtain ⟨a,cap,rfl,h1,h2,h3,-⟩:=h.parts;have hm:maxLen=9223372036854775807:=rfl;exact ⟨a,cap,rfl,by omega,by omega,h3⟩
theorem map_setT(xs:List iE)(k:Nat)(c:iE):(xs.set k c).map tv=(xs.map tv).set k (tv c):=by
 simp [List.map_set]
theorem jO.set{B:Nat}{w:World}{g n cap:Nat}{xs:List iE}(h:jO B w (.slice (some ⟨g,0,none⟩) n cap) xs)(j:Nat)(x:iE):jO B (w.setCell ⟨g,j,none⟩ (tv x)) (.slice (some ⟨g,0,none⟩) n cap) (xs.set j x):=by
 have hn:=h.seq.iY.1;have h':w.ownsRow B 9 1 (.slice (some ⟨g,0,none⟩) n cap) n (xs.map tv):=by rw [<-hn];unfold jO at h;rw [<-hn] at h;exact h
 have hs:=(bQ h' j (tv x)).1;rw [<-map_setT] at hs;unfold jO;rw [aX,hn];exact hs
theorem jO.block{B:Nat}{w:World}{g n cap:Nat}{xs:List iE}(h:jO B w (.slice (some ⟨g,0,none⟩) n cap) xs):B<=g/\g<w.heap.size:=h.lt g rfl
theorem Yl(s:iE)(k:Nat)(hk:k<s.length)(w:World):(Instr.index 9 (.string (bt s)) (.int .i64 (k:Int))).run prog w= .ok (.int .u8 ((s.getD k 0).toNat:Int)) w:=by
 rw [run_index_string w _ _ _ _ underlying9];have hs:=nZ s;rw [dif_pos (by omega)]
 congr 2
 show (((bt s).data[((k:Int)).toNat]'(by simp [bt];omega)).toNat:Int)=_
 simp [bt,List.getD,List.getElem?_eq_getElem hk]
theorem sW(s:iE):(bt s).toList=s:=by
 rw [ByteArray.toList_eq]
 rfl
theorem zP(s t:iE):((bt s).toList==(bt t).toList)=decide (s=t):=by rw [sW,sW];by_cases h:s=t<;>simp [h]
theorem text_lt(s t:iE):Op.bytesLess (bt s).toList (bt t).toList=decide (s<t):=by rw [sW,sW];exact bytesLess_eq s t
end Go.Proofs.YtfgcodcablpdcaaGreat
set_option maxRecDepth 100000
set_option maxHeartbeats 64000000
namespace Go.Proofs.YtfgcodcablpdcaaGreat.By
open Go.Proofs.Tryz
open Go.RowKit Plain
def NA{α:Type}(val:α ->Value)(zero:Value)(w:World)(res:mq α)(e:Ending)(w':World):Prop:=match res with
 | .ok a r=>Gw (val a) w r e w'
 | .err k=>e= .returned (.tuple #[zero,.slice none 0 0,.int .i64 k])/\w=w'
theorem num_err2{v:Value}{xs:Bytes}{w:World}(hs:Seq w v xs)(hr:read xs=(0,0,2)):Calls prog 41 #[v] w fun e w'=>e= .returned (.tuple #[.int .i64 0,.slice none 0 0,.int .i64 2])/\w=w':=by
 have K1:=zH (rF hs);unfold RdT at K1;rw [hr] at K1;clear hs hr;go_enter func41,ntmps41
 go_wp2_with fail
 refine K1.o.mono ?_;rintro e w1 ⟨rfl,rfl⟩;go_wp2_with fail
 go_ret3
 exact ⟨rfl,rfl⟩
theorem num_err3{v:Value}{xs:Bytes}{w:World}(hs:Seq w v xs)(hr:read xs=(0,0,3)):Calls prog 41 #[v] w fun e w'=>e= .returned (.tuple #[.int .i64 0,.slice none 0 0,.int .i64 3])/\w=w':=by
 have K1:=zH (rF hs);unfold RdT at K1;rw [hr] at K1;clear hs hr;go_enter func41,ntmps41
 go_wp2_with fail
 refine K1.o.mono ?_;rintro e w1 ⟨rfl,rfl⟩;go_wp2_with fail
 go_ret3
 exact ⟨rfl,rfl⟩
theorem uM{v:Value}{xs:Bytes}{w:World}(hs:Seq w v xs)(hlen:xs.length<=1000000000):Calls prog 41 #[v] w (NA (fun n:Nat=> .int .i64 n) (.int .i64 0) w (iZ.get xs)):=by
 show Calls _ _ _ _ (NA (fun n:Nat=> .int .i64 n) (.int .i64 0) w (jh xs))
 rcases oL xs with ⟨n,s,h⟩|h|h
 ·rw [lN h];exact num_ok hs hlen h
 ·rw [iW h (by decide)];exact num_err2 hs h
 ·rw [iW h (by decide)];exact num_err3 hs h
theorem int_err{v:Value}{xs:Bytes}{w:World}(hs:Seq w v xs)(h8:xs.length<8):Calls prog 285 #[v] w fun e w'=>e= .returned (.tuple #[.int .i64 0,.slice none 0 0,.int .i64 3])/\w=w':=by
 obtain ⟨a,cap,rfl,-⟩:=hs.parts;generalize xs.length=n at*;clear hs;go_enter func285,ntmps285
 go_wp2_with fail
 go_ret3
 exact ⟨rfl,rfl⟩
theorem Gl{v:Value}{xs:Bytes}{w:World}(hs:Seq w v xs)(hlen:xs.length<=1000000000):Calls prog 285 #[v] w (NA (fun n:Int=> .int .i64 n) (.int .i64 0) w (qz.get xs)):=by
 show Calls _ _ _ _ (NA (fun n:Int=> .int .i64 n) (.int .i64 0) w (mJ xs))
 unfold mJ
 by_cases h:xs.length<8
 ·rw [if_pos h];exact int_err hs h
 ·rw [if_neg h];exact int_ok hs hlen (by omega)
theorem zR{v:Value}{xs:Bytes}{w:World}(hs:Seq w v xs)(n s:Nat)(k:Int)(hr:(read xs=(n,s,0)/\((65536<n/\k=4)\/(n<=65536/\xs.length-s<n/\k=3)))\/(read xs=(0,0,2)/\k=2)\/(read xs=(0,0,3)/\k=3)):
  Calls prog 283 #[v] w fun e w'=>e= .returned (.tuple #[.string ⟨#[]⟩,.slice none 0 0,.int .i64 k])/\w=w':=by
 have K1:=zH (rF hs);obtain ⟨a,cap,rfl,g1,g2,g0,-⟩:=hs.parts;have hm:maxLen=9223372036854775807:=rfl;rw [hm] at g2
 rcases hr with ⟨hr1,hn⟩|⟨hr1,rfl⟩|⟨hr1,rfl⟩
 ·obtain ⟨-,h1,h2,h3,h4⟩:=qy hr1
  rw [hr1] at K1;unfold RdT at K1
  rcases hn with ⟨hn,rfl⟩|⟨hn,hnl,rfl⟩
  ·have hni:(n:Int)<=72057594037927936:=by omega
   clear hs hr1 hm g0;go_enter func283,ntmps283
   go_wp2_with fail
   refine K1.o.mono ?_;rintro e w1 ⟨rfl,rfl⟩;go_wp2_with fail
   go_ret3
   exact ⟨rfl,rfl⟩
  ·clear hs hr1 hm g0
   go_enter func283,ntmps283
   go_wp2_with fail
   refine K1.o.mono ?_;rintro e w1 ⟨rfl,rfl⟩;go_wp2_with fail
   go_ret3
   exact ⟨rfl,rfl⟩
 ·rw [hr1] at K1
  unfold RdT at K1;clear hs hr1 hm g0;go_enter func283,ntmps283
  go_wp2_with fail
  refine K1.o.mono ?_;rintro e w1 ⟨rfl,rfl⟩;go_wp2_with fail
  go_ret3
  exact ⟨rfl,rfl⟩
 ·rw [hr1] at K1
  unfold RdT at K1;clear hs hr1 hm g0;go_enter func283,ntmps283
  go_wp2_with fail
  refine K1.o.mono ?_;rintro e w1 ⟨rfl,rfl⟩;go_wp2_with fail
  go_ret3
  exact ⟨rfl,rfl⟩
theorem Cq{v:Value}{xs:Bytes}{w:World}(hs:Seq w v xs)(hlen:xs.length<=1000000000):Calls prog 283 #[v] w (NA (fun t:iE=> .string (bt t)) (.string ⟨#[]⟩) w (iQ.get xs)):=by
 show Calls _ _ _ _ (NA (fun t:iE=> .string (bt t)) (.string ⟨#[]⟩) w (uH xs))
 unfold uH
 rcases oL xs with ⟨n,s,h⟩|h|h
 ·rw [lN h]
  show Calls _ _ _ _ (NA _ _ w (if 65536<n then mq.err 4 else if (xs.drop s).length<n then .err 3 else .ok (Wm ((xs.drop s).take n)) ((xs.drop s).drop n)))
  rw [bB]
  by_cases h1:65536<n
  ·rw [if_pos h1];exact zR hs n s 4 (.inl ⟨h,.inl ⟨h1,rfl⟩⟩)
  ·rw [if_neg h1]
   by_cases h2:xs.length-s<n
   ·rw [if_pos h2];exact zR hs n s 3 (.inl ⟨h,.inr ⟨by omega,h2,rfl⟩⟩)
   ·rw [if_neg h2,List.drop_drop]
    exact text_ok hs hlen h (by omega) (by omega)
 ·rw [iW h (by decide)];exact zR hs 0 0 2 (.inr (.inl ⟨h,rfl⟩))
 ·rw [iW h (by decide)];exact zR hs 0 0 3 (.inr (.inr ⟨h,rfl⟩))
end Go.Proofs.YtfgcodcablpdcaaGreat.By
namespace Go.Proofs.YtfgcodcablpdcaaGreat
open Go.Proofs.Tryz
open Go.RowKit Plain
def sN(d:gB):List Value:=[.int .i64 d.node,.int .i64 d.seq,.int .i64 d.pos]
def dv(d:gB):Value:= .agg #[.int .i64 d.node,.int .i64 d.seq,.int .i64 d.pos]
def mG(x:fK):List Value:=[tv x.key,tv x.field,.int .i64 x.kind,tv x.elem,.int .i64 x.n,.int .i64 x.dot.node,.int .i64 x.dot.seq,.int .i64 x.dot.pos]
def Ym(x:fK):Value:= .agg #[tv x.key,tv x.field,.int .i64 x.kind,tv x.elem,.int .i64 x.n,.int .i64 x.dot.node,.int .i64 x.dot.seq,.int .i64 x.dot.pos]
def UQ:Value:= .agg #[.int .i64 0,.int .i64 0,.int .i64 0]
def tY:Value:= .agg #[.string ByteArray.empty,.string ByteArray.empty,.int .i64 0,.string ByteArray.empty,.int .i64 0,.int .i64 0,.int .i64 0,.int .i64 0]
theorem infoDt:(prog.info? 77).map (fun i=>(i.zero,i.size,i.bytes))=some (some UQ,3,24):=by kernel_rfl
theorem infoIt:(prog.info? 79).map (fun i=>(i.zero,i.size,i.bytes))=some (some tY,8,88):=by kernel_rfl
theorem oneDt{vs:List Value}{d:gB}(h:vs=sN d):∀ u∈vs,u.oneCell'=true:=by
 subst h;intro u hu;simp only [sN,bL,dU,or_false] at hu
 rcases hu with rfl|rfl|rfl<;>rfl
theorem oneIt{vs:List Value}{x:fK}(h:vs=mG x):∀ u∈vs,u.oneCell'=true:=by
 subst h;intro u hu;simp only [mG,bL,dU,or_false] at hu
 rcases hu with rfl|rfl|rfl|rfl|rfl|rfl|rfl|rfl<;>rfl
theorem lenDt{vs:List Value}{d:gB}(h:vs=sN d):vs.length=3:=by subst h;rfl
theorem lenIt{vs:List Value}{x:fK}(h:vs=mG x):vs.length=8:=by subst h;rfl
theorem zsDt:UQ.cells.size=3:=rfl
theorem zsIt:tY.cells.size=8:=rfl
def jI:El gB where
 k:=3
 E:=77
 S:=83
 zero:=UQ
 bytes:=24
 R:=fun _ _ vs d=>vs=sN d
 pos:=by decide
 small:=by decide
 len:=lenDt
 one:=oneDt
 mono:=fun h _=>h
 agree:=fun h _=>h
 und:=underlying83
 info:=infoDt
 tV:=zsDt
def gG:El fK where
 k:=8
 E:=79
 S:=26
 zero:=tY
 bytes:=88
 R:=fun _ _ vs x=>vs=mG x
 pos:=by decide
 small:=by decide
 len:=lenIt
 one:=oneIt
 mono:=fun h _=>h
 agree:=fun h _=>h
 und:=underlying26
 info:=infoIt
 tV:=zsIt
theorem pX:Flat jI:=fun h=>h
theorem jR:Flat gG:=fun h=>h
structure jS(w:World)(b o:Nat)(x:fK):Prop where
 c0:w.cell? ⟨b,o,none⟩=some (.string (bt x.key))
 c1:w.cell? ⟨b,o+1,none⟩=some (.string (bt x.field))
 c2:w.cell? ⟨b,o+2,none⟩=some (.int .i64 x.kind)
 c3:w.cell? ⟨b,o+3,none⟩=some (.string (bt x.elem))
 c4:w.cell? ⟨b,o+4,none⟩=some (.int .i64 x.n)
 c5:w.cell? ⟨b,o+5,none⟩=some (.int .i64 x.dot.node)
 c6:w.cell? ⟨b,o+6,none⟩=some (.int .i64 x.dot.seq)
 c7:w.cell? ⟨b,o+7,none⟩=some (.int .i64 x.dot.pos)
structure pY(w:World)(b o:Nat)(d:gB):Prop where
 c0:w.cell? ⟨b,o,none⟩=some (.int .i64 d.node)
 c1:w.cell? ⟨b,o+1,none⟩=some (.int .i64 d.seq)
 c2:w.cell? ⟨b,o+2,none⟩=some (.int .i64 d.pos)
theorem jS.below{N:Nat}{w w':World}{b o:Nat}{x:fK}(h:jS w b o x)(hb:Below N w w')(hN:b<N):jS w' b o x:=
 ⟨(hb.cell (p:=⟨b,o,none⟩) hN).trans h.c0,(hb.cell (p:=⟨b,o+1,none⟩) hN).trans h.c1,(hb.cell (p:=⟨b,o+2,none⟩) hN).trans h.c2,(hb.cell (p:=⟨b,o+3,none⟩) hN).trans h.c3,
  (hb.cell (p:=⟨b,o+4,none⟩) hN).trans h.c4,(hb.cell (p:=⟨b,o+5,none⟩) hN).trans h.c5,(hb.cell (p:=⟨b,o+6,none⟩) hN).trans h.c6,(hb.cell (p:=⟨b,o+7,none⟩) hN).trans h.c7⟩
theorem jS.lt{w:World}{b o:Nat}{x:fK}(h:jS w b o x):b<w.heap.size:=aG w ⟨b,o,none⟩ h.c0
theorem pY.below{N:Nat}{w w':World}{b o:Nat}{x:gB}(h:pY w b o x)(hb:Below N w w')(hN:b<N):pY w' b o x:=
 ⟨(hb.cell (p:=⟨b,o,none⟩) hN).trans h.c0,(hb.cell (p:=⟨b,o+1,none⟩) hN).trans h.c1,(hb.cell (p:=⟨b,o+2,none⟩) hN).trans h.c2⟩
theorem pY.lt{w:World}{b o:Nat}{x:gB}(h:pY w b o x):b<w.heap.size:=aG w ⟨b,o,none⟩ h.c0
theorem getD_at{α:Type}[Inhabited α]{xs:List α}{j:Nat}(hj:j<xs.length):xs[j]? =some (xs.getD j default):=by
 simp [List.getD,List.getElem?_eq_getElem hj]
theorem nP{w:World}{v:Value}{xs:List fK}(h:fM gG w v xs)(hp:0<xs.length):∃ b o cap,v= .slice (some ⟨b,o,none⟩) xs.length cap/\xs.length<=cap/\cap<=9223372036854775807/\fM gG w (.slice (some ⟨b,o,none⟩) xs.length cap) xs/\∀ j,j<xs.length ->jS w b (o+j*8) (xs.getD j default):=by
 obtain ⟨b,o,cap,e,h1,h2,h3,hc⟩:=h.spot hp;refine ⟨b,o,cap,e,h1,h2,h3,fun j hj=> ?_⟩;obtain ⟨vs,hr,hv⟩:=hc j _ (getD_at hj);obtain rfl:vs=mG (xs.getD j default):=hr;have g:=fun i u (hu:(mG (xs.getD j default))[i]? =some u)=>hv i u hu
 refine ⟨g 0 _ rfl,?_,?_,?_,?_,?_,?_,?_⟩
 ·rw [bP];exact g 1 _ rfl
 ·rw [bP];exact g 2 _ rfl
 ·rw [bP];exact g 3 _ rfl
 ·rw [bP];exact g 4 _ rfl
 ·rw [bP];exact g 5 _ rfl
 ·rw [bP];exact g 6 _ rfl
 ·rw [bP];exact g 7 _ rfl
theorem nY{w:World}{v:Value}{xs:List gB}(h:fM jI w v xs)(hp:0<xs.length):∃ b o cap,v= .slice (some ⟨b,o,none⟩) xs.length cap/\xs.length<=cap/\cap<=9223372036854775807/\fM jI w (.slice (some ⟨b,o,none⟩) xs.length cap) xs/\∀ j,j<xs.length ->pY w b (o+j*3) (xs.getD j default):=by
 obtain ⟨b,o,cap,e,h1,h2,h3,hc⟩:=h.spot hp;refine ⟨b,o,cap,e,h1,h2,h3,fun j hj=> ?_⟩;obtain ⟨vs,hr,hv⟩:=hc j _ (getD_at hj);obtain rfl:vs=sN (xs.getD j default):=hr;have g:=fun i u (hu:(sN (xs.getD j default))[i]? =some u)=>hv i u hu
 refine ⟨g 0 _ rfl,?_,?_⟩
 ·rw [bP];exact g 1 _ rfl
 ·rw [bP];exact g 2 _ rfl
theorem Im(w:World)(x:fK):fM gG (w.alloc (.cells #[.string (bt x.key),.string (bt x.field),.int .i64 x.kind,.string (bt x.elem),.int .i64 x.n,.int .i64 x.dot.node,.int .i64 x.dot.seq,.int .i64 x.dot.pos] 79)) (.slice (some ⟨w.heap.size,0,none⟩) 1 1) [x]:=by
 have h:=fM.one (L:=gG) (w:=w) (vs:=mG x) (x:=x) rfl (mG x).toArray (by simp);exact h
theorem Ld{s:ByteArray}(h:s.size<=maxLen):(tx s).length<=9223372036854775807:=by
 have e:(tx s).length=s.size:=by unfold tx ByteArray.size;exact eH
 rw [e];exact h
def jf(d:gB):Prop:=(Lit.int .i64 d.node).wf=true/\(Lit.int .i64 d.seq).wf=true/\(Lit.int .i64 d.pos).wf=true
def M9(x:fK):Prop:=(Lit.int .i64 x.kind).wf=true/\(Lit.int .i64 x.n).wf=true/\jf x.dot/\x.key.length<=9223372036854775807/\x.field.length<=9223372036854775807/\x.elem.length<=9223372036854775807
theorem tX:prog.cellsOf 77=3:=by kernel_rfl
theorem EC:prog.cellsOf 79=8:=by kernel_rfl
section
open Go.ChangeShapes Go.WideShapes Go.Joins
set_option maxRecDepth 100000
theorem EK{H:Type}{enc:TypeId×Value ->H}{W:World}{n:Nat}{cs:List Value}{y:DataW H×List MemPlace}(ht:DataW.trod enc prog W 0 (fun _=>true) true n 77 cs=some y):∃ d,cs=sN d/\jf d:=by
 obtain ⟨y0,y1,y2,n',-,hl,h0,h1,h2⟩:=Go.Deep.trod_struct3 underlying77 ht;rw [tX] at hl;have e1:prog.cellsOf 3=1:=by kernel_rfl
 match cs,hl with
 |[x0,x1,x2],_=>
  simp [e1] at h0 h1 h2
  obtain ⟨a,g0,-,w0⟩:=bX underlying3 h0;obtain ⟨b,g1,-,w1⟩:=bX underlying3 h1;obtain ⟨c,g2,-,w2⟩:=bX underlying3 h2;simp at g0 g1 g2
  subst g0 g1 g2;exact ⟨⟨a,b,c⟩,rfl,w0,w1,w2⟩
theorem J7{H:Type}{enc:TypeId×Value ->H}{W:World}{n:Nat}{cs:List Value}{y:DataW H×List MemPlace}(ht:DataW.trod enc prog W 0 (fun _=>true) true n 79 cs=some y):∃ x,cs=mG x/\M9 x:=by
 obtain ⟨ys,n',-,-,hl,hlen,hf⟩:=fu underlying79 ht;rw [EC] at hl;have e1:prog.cellsOf 3=1:=by kernel_rfl
 have e2:prog.cellsOf 9=1:=by kernel_rfl
 have e3:prog.cellsOf 2=1:=by kernel_rfl
 match cs,hl with
 |[x0,x1,x2,x3,x4,x5,x6,x7],_=>
  match ys,hlen with
  |[y0,y1,y2,y3,y4,y5],_=>
   have h0:=hf 0 _ rfl;have h1:=hf 1 _ rfl;have h2:=hf 2 _ rfl;have h3:=hf 3 _ rfl;have h4:=hf 4 _ rfl;have h5:=hf 5 _ rfl;simp [e1,e2,e3,tX] at h0 h1 h2 h3 h4 h5
   obtain ⟨s0,g0,-,l0⟩:=eu underlying9 h0;obtain ⟨s1,g1,-,l1⟩:=eu underlying9 h1;obtain ⟨a2,g2,-,w2⟩:=bX underlying3 h2;obtain ⟨s3,g3,-,l3⟩:=eu underlying9 h3;obtain ⟨a4,g4,-,w4⟩:=bX underlying2 h4;obtain ⟨d,g5,wd⟩:=EK h5;simp at g0 g1 g2 g3 g4
   subst g0 g1 g2 g3 g4;simp only [sN,List.cons.injEq,and_true] at g5
   obtain ⟨rfl,rfl,rfl⟩:=g5;exact ⟨⟨tx s0,tx s1,a2,tx s3,a4,d⟩,rfl,w2,w4,wd,Ld l0,Ld l1,Ld l3⟩
end
end Go.Proofs.YtfgcodcablpdcaaGreat