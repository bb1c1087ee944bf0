import Derived.Test.YtfgcodcablpdcaaGreatStMaths
set_option linter.unusedVariables false
namespace Go.Proofs.YtfgcodcablpdcaaGreat.Plain
open Nm.Plain (fits)
structure gu where
 kind:Int
 ticket:Int
 whole:Bool
 vec:Ints
 from_:Ints
 zone:List iE
 want:List iE
 items:List fK
 fU:List fI
theorem pmsg_ext{a b:gu}(h1:a.kind=b.kind)(h2:a.ticket=b.ticket)(h3:a.whole=b.whole)(h4:a.vec=b.vec)(h5:a.from_=b.from_)(h6:a.zone=b.zone)(h7:a.want=b.want)(h8:a.items=b.items)(h9:a.fU=b.fU):a=b:=by
 cases a;cases b;simp_all
theorem pmsg_dec{a b:gu}:a=b↔a.kind=b.kind/\a.ticket=b.ticket/\a.whole=b.whole/\a.vec=b.vec/\a.from_=b.from_/\a.zone=b.zone/\a.want=b.want/\a.items=b.items/\a.fU=b.fU:=
 ⟨fun e=>by subst e;exact ⟨rfl,rfl,rfl,rfl,rfl,rfl,rfl,rfl,rfl⟩,fun ⟨h1,h2,h3,h4,h5,h6,h7,h8,h9⟩=>pmsg_ext h1 h2 h3 h4 h5 h6 h7 h8 h9⟩
instance:DecidableEq gu:=fun a b=>decidable_of_iff _ pmsg_dec.symm
def lQ:gu:=⟨0,0,false,[],[],[],[],[],[]⟩
instance:Inhabited gu:=⟨lQ⟩
def tJ(v:Ints):Bool:=decide (v.length<=8)&&(decide (trim v=v)&&v.all fun n=>decide (n<=1073741824))
def kG(z:List iE):Bool:=decide (Pv z=0)&&decide (least z=z)
def oo(m:gu):Bool:=
 if m.kind=1\/m.kind=6 then decide (m.ticket=0)&&(!m.whole&&(m.vec.isEmpty&&(m.from_.isEmpty&&(m.zone.isEmpty&&(m.want.isEmpty&&m.items.isEmpty)))))
 else if m.kind=2 then m.from_.isEmpty&&(m.items.isEmpty&&m.fU.isEmpty)
 else if m.kind=3 then !m.whole&&(m.from_.isEmpty&&(m.zone.isEmpty&&m.fU.isEmpty))
 else if m.kind=4 then !m.whole&&(m.zone.isEmpty&&m.items.isEmpty)
 else if m.kind=5 then decide (m.ticket=0)&&(!m.whole&&(m.from_.isEmpty&&(m.zone.isEmpty&&(m.want.isEmpty&&(m.items.isEmpty&&m.fU.isEmpty)))))
 else false
def Pw(m:gu)(x:fK):Bool:=iH x&&(covers m.want x.key&&decide (x.dot.seq<=iF m.vec x.dot.node))
def GU(m:gu):Bool:=m.fU.all (fun t=>decide (Wo t m.want=t))&&(gX m.from_ m.fU&&decide (jd m.from_ m.fU=m.vec))
def fV(m:gu):Bool:=
 oo m&&(decide (0<=m.ticket)&&(decide (m.ticket<=1073741824)&&(tJ m.vec&&(tJ m.from_&&(kG m.zone&&(kG m.want&&(decide (m.items.length<=32768)&&(decide (m.fU.length<=4096)&&
  (m.items.all (Pw m)&&(decide (iG m.items=m.items)&&(m.fU.all fQ&&(!decide (m.kind=4)||GU m))))))))))))
structure MFormed(m:gu):Prop where
 uses:oo m=true
 t0:0<=m.ticket
 t1:m.ticket<=1073741824
 vec:tJ m.vec=true
 from_:tJ m.from_=true
 zone:kG m.zone=true
 want:kG m.want=true
 ilen:m.items.length<=32768
 tlen:m.fU.length<=4096
 items:∀ x∈m.items,Pw m x=true
 norm:iG m.items=m.items
 fU:∀ t∈m.fU,fQ t=true
 delta:m.kind=4 ->GU m=true
theorem kJ{m:gu}:fV m=true↔MFormed m:=by
 unfold fV;simp only [aD,decide_eq_true_iff,aR,dX,Bool.not_eq_true',decide_eq_false_iff_not]
 constructor
 ·rintro ⟨h1,h2,h3,h4,h5,h6,h7,h8,h9,h10,h11,h12,h13⟩
  exact ⟨h1,h2,h3,h4,h5,h6,h7,h8,h9,h10,h11,h12,fun k=>h13.resolve_left fun n=>n k⟩
 ·intro h
  refine ⟨h.uses,h.t0,h.t1,h.vec,h.from_,h.zone,h.want,h.ilen,h.tlen,h.items,h.norm,h.fU,?_⟩
  by_cases k:m.kind=4
  ·exact .inr (h.delta k)
  ·exact .inl k
theorem qA{v:Ints}(h:tJ v=true):v.length<=8/\trim v=v/\∀ n∈v,0<=n/\n<=1073741824:=by
 unfold tJ at h;rw [aD,aD,decide_eq_true_iff,decide_eq_true_iff,aR] at h;exact ⟨h.1,h.2.1,fun n hn=>⟨Px h.2.1 n hn,bR (h.2.2 n hn)⟩⟩
theorem rH{z:List iE}(h:kG z=true):z.length<=8/\∀ s∈z,s.length<=16:=by
 unfold kG Pv at h;rw [aD,decide_eq_true_iff,decide_eq_true_iff] at h;obtain ⟨h1,h2⟩:=h
 by_cases hp:z.all iK=true
 ·rw [if_pos hp] at h1
  by_cases h8:8<(least z).length
  ·rw [if_pos h8] at h1;cases h1
  ·rw [h2] at h8
   refine ⟨by omega,fun s hs=>wP (aR.1 hp s hs)⟩
 ·rw [if_neg hp] at h1;cases h1
theorem yg{m:gu}(h:oo m=true):1<=m.kind/\m.kind<=6:=by
 unfold oo at h
 split at h
 ·omega
 ·split at h
  ·omega
  ·split at h
   ·omega
   ·split at h
    ·omega
    ·split at h
     ·omega
     ·cases h
def uU:iw Bool:=(kP.test (fun n=>decide (n=0)||decide (n=1)) 2 (by decide)).emb (fun n=>decide (n=1)) (fun b=>if b then 1 else 0) fun a h=>by
 have:=h.2;simp only [dX,decide_eq_true_iff] at this
 rcases this with rfl|rfl
 ·rfl
 ·rfl
def yh:iw fK:=(iQ.seq (iQ.seq (kP.seq (iQ.seq (qz.seq yj))))).emb (fun p=>⟨p.1,p.2.1,p.2.2.1,p.2.2.2.1,p.2.2.2.2.1,p.2.2.2.2.2⟩) (fun x=>(x.key,x.field,x.kind,x.elem,x.n,x.dot)) fun _ _=>rfl
def Fx:iw Ints:=kP.list 8 2 (by decide) (by decide)
def xM:iw (List iE):=iQ.list 8 2 (by decide) (by decide)
def Bz:iw gu:=(kP.seq (kP.seq (uU.seq (Fx.seq (Fx.seq (xM.seq (xM.seq ((yh.list 32768 2 (by decide) (by decide)).seq (kC.list 4096 2 (by decide) (by decide)))))))))).emb
 (fun p=>⟨p.1,p.2.1,p.2.2.1,p.2.2.2.1,p.2.2.2.2.1,p.2.2.2.2.2.1,p.2.2.2.2.2.2.1,p.2.2.2.2.2.2.2.1,p.2.2.2.2.2.2.2.2⟩) (fun m=>(m.kind,m.ticket,m.whole,m.vec,m.from_,m.zone,m.want,m.items,m.fU)) fun _ _=>rfl
def Fy:iw gu:=Bz.test fV 2 (by decide)
def yt(m:gu):Prop:=(∀ x∈m.items,fits x.n)/\∀ t∈m.fU,∀ e∈t.effs,fits e.n
theorem wQ{x:fK}(h:iH x=true):jX x.dot=true/\x.key.length<=16/\x.field.length<=16/\x.elem.length<=32/\1<=x.kind/\x.kind<=3:=by
 obtain ⟨g1,g2,g3,g4,g5⟩:=BI.1 h;have hk:1<=x.kind/\x.kind<=3:=by
  unfold qB at g5;simp only [dX,aD,decide_eq_true_iff] at g5
  omega
 exact ⟨g1,wP (Mv g2),wP g3,g4,hk.1,hk.2⟩
theorem itemC_ok{x:fK}(h:iH x=true)(hn:fits x.n):yh.ok x:=by
 obtain ⟨h1,h2,h3,h4,h5,h6⟩:=wQ h;refine ⟨⟨?_,?_,jN.2 (by show 0<=x.kind/\x.kind<_;omega),?_,hn,Wp h1⟩,rfl⟩
 ·show x.key.length<=65536;omega
 ·show x.field.length<=65536;omega
 ·show x.elem.length<=65536;omega
theorem tK{m:gu}{x:fK}(h:Pw m x=true):iH x=true/\covers m.want x.key=true/\x.dot.seq<=iF m.vec x.dot.node:=by
 unfold Pw at h;rw [aD,aD,decide_eq_true_iff] at h;exact h
theorem Wq{v:Ints}(h:tJ v=true):Fx.ok v:=by
 obtain ⟨h1,h2,h3⟩:=qA h;exact ⟨h1,fun n hn=>jN.2 (by have:=h3 n hn;omega)⟩
theorem Py{z:List iE}(h:kG z=true):xM.ok z:=by
 obtain ⟨h1,h2⟩:=rH h;exact ⟨h1,fun s hs=>by have:=h2 s hs;show s.length<=65536;omega⟩
theorem Xq(b:Bool):uU.ok b:=by
 cases b
 ·exact ⟨⟨jN.2 (by show (0:Int)<=0/\(0:Int)<_;omega),rfl⟩,rfl⟩
 ·exact ⟨⟨jN.2 (by show (0:Int)<=1/\(1:Int)<_;omega),rfl⟩,rfl⟩
theorem msgC_ok{m:gu}(h:fV m=true)(hn:yt m):Fy.ok m:=by
 have f:=kJ.1 h;have hk:=yg f.uses;exact ⟨⟨⟨jN.2 (by show 0<=m.kind/\m.kind<_;omega),jN.2 (by show 0<=m.ticket/\m.ticket<_;have:=f.t0;have:=f.t1;omega),Xq _,Wq f.vec,Wq f.from_,Py f.zone,Py f.want,
  ⟨f.ilen,fun x hx=>itemC_ok (tK (f.items x hx)).1 (hn.1 x hx)⟩,⟨f.tlen,fun t ht=>txnC_ok (f.fU t ht) (hn.2 t ht)⟩⟩,rfl⟩,h⟩
def xO(b:Bytes):Option gu:=match Fy.get b with
 | .ok m []=>some m
 |_=>none
theorem Xr{m:gu}(h:fV m=true)(hn:yt m):xO (Fy.put m)=some m:=by
 have:=Fy.fwd m [] (msgC_ok h hn);rw [aV] at this;unfold xO;rw [this]
theorem mread_is{b:Bytes}{m:gu}(h:xO b=some m):fV m=true/\Fy.put m=b/\Fy.ok m:=by
 unfold xO at h
 split at h
 ·rename_i x e
  obtain rfl:=dN h;obtain ⟨o,e2⟩:=Fy.bwd e;rw [aV] at e2;exact ⟨o.2,e2,o⟩
 ·cases h
theorem GV{x:fK}(h:iH x=true):(yh.put x).length<=144:=by
 obtain ⟨h1,h2,h3,h4,h5,h6⟩:=wQ h
 show (iQ.put x.key++(iQ.put x.field++(kP.put x.kind++(iQ.put x.elem++(lI x.n++yj.put x.dot))))).length<=_
 simp only [aA]
 have a1:=nG h2 (by omega);have a2:=nG h3 (by omega);have a3:=je (m:=x.kind) (by omega);have a4:=nG h4 (by omega);have a5:=mV x.n;have a6:=Pz h1;omega
theorem PD{m:gu}(h:fV m=true):(Fy.put m).length<=1000+m.items.length*144+m.fU.length*14000:=by
 have f:=kJ.1 h;have hk:=yg f.uses;have t0:=f.t0;have t1:=f.t1
 show (kP.put m.kind++(kP.put m.ticket++(uU.put m.whole++(Fx.put m.vec++(Fx.put m.from_++(xM.put m.zone++(xM.put m.want++((form m.items.length++iA yh m.items)++(form m.fU.length++iA kC m.fU))))))))).length<=_
 simp only [aA]
 have hv:∀ {v:Ints},tJ v=true ->(Fx.put v).length<=72:=fun {v} hv=>by
  obtain ⟨h1,h2,h3⟩:=qA hv
  show (form v.length++iA kP v).length<=_
  rw [aA];have a1:=gP v.length (by omega);have a2:=jC kP 8 v fun n hn=>je (by have:=h3 n hn;omega)
  omega
 have hz:∀ {z:List iE},kG z=true ->(xM.put z).length<=200:=fun {z} hz=>by
  obtain ⟨h1,h2⟩:=rH hz
  show (form z.length++iA iQ z).length<=_
  rw [aA];have a1:=gP z.length (by omega);have a2:=jC iQ 24 z fun s hs=>by have:=nG (h2 s hs) (by omega);omega
  omega
 have a1:=je (m:=m.kind) (by omega);have a2:=je (m:=m.ticket) (by omega);have a3:(uU.put m.whole).length<=8:=by
  cases m.whole
  ·exact je (m:=0) (by omega)
  ·exact je (m:=1) (by omega)
 have a4:=hv f.vec;have a5:=hv f.from_;have a6:=hz f.zone;have a7:=hz f.want;have a8:=gP m.items.length (by have:=f.ilen;omega);have a9:=gP m.fU.length (by have:=f.tlen;omega);have b1:=jC yh 144 m.items fun x hx=>GV (tK (f.items x hx)).1
 have b2:=jC kC 14000 m.fU fun t ht=>PG (f.fU t ht)
 omega
def Mw(m:gu):Bool:=decide (m.ticket=0)&&(!m.whole&&(m.vec.isEmpty&&(m.from_.isEmpty&&(m.zone.isEmpty&&(m.want.isEmpty&&(m.items.isEmpty&&m.fU.isEmpty))))))
def AP(m:gu):gu:=
 if m.kind=1\/m.kind=6 then {m with fU:=[]}
 else if m.kind=5 then {m with vec:=[]}
 else if m.kind=2 then {m with ticket:=0,whole:=false,vec:=[],zone:=[],want:=[]}
 else if m.kind=3 then {m with ticket:=0,vec:=[],want:=[],items:=[]}
 else {m with ticket:=0,from_:=[],vec:=[],want:=[],fU:=[]}
theorem BJ{m:gu}(hk:1<=m.kind/\m.kind<=6):oo m=Mw (AP m):=by
 have:m.kind=1\/m.kind=2\/m.kind=3\/m.kind=4\/m.kind=5\/m.kind=6:=by omega
 rcases this with e|e|e|e|e|e<;>simp [oo,AP,Mw,e]
theorem uses_not{m:gu}(hk:¬ (1<=m.kind/\m.kind<=6)):oo m=false:=by
 cases e:oo m with
 |false=>rfl
 |true=>exact absurd (yg e) hk
def wR(m:gu)(x:fK):Bool:= !iH x||(!covers m.want x.key|| !(decide (1<=x.dot.seq)&&decide (x.dot.seq<=iF m.vec x.dot.node)))
theorem wrong_is(m:gu)(x:fK):wR m x= !Pw m x:=by
 unfold wR Pw
 cases h:iH x with
 |false=>rfl
 |true=>
  have hd:=(wQ h).1;unfold jX at hd;rw [decide_eq_true_iff] at hd;rw [aI (show 1<=x.dot.seq by omega)]
  cases covers m.want x.key<;>simp
def yu(m:gu):Bool:=decide (m.items.length<=32768)&&(!m.items.any (wR m)&&decide (m.items=iG m.items))
def BM(l:List fI):Bool:=decide (l.length<=4096)&& !l.any (fun t=> !fQ t)
def oJ(z:List iE)(t:fI):Bool:=t.effs.any fun e=> !covers z e.key
def yw(m:gu):Bool:=m.fU.all (fun t=> !oJ m.want t)&&(gX m.from_ m.fU&&decide (m.vec=jd m.from_ m.fU))
theorem tonly_is(t:fI)(z:List iE):decide (Wo t z=t)= !oJ z t:=by
 have h:Wo t z=t↔∀ e∈t.effs,covers z e.key=true:=by
  unfold Wo
  constructor
  ·intro h
   have:eonly t.effs z=t.effs:=by
    have:=congrArg fI.effs h;exact this
   exact dQ.1 this
  ·intro h
   have:eonly t.effs z=t.effs:=dQ.2 h;rw [this]
 unfold oJ
 cases e:t.effs.any (fun e=> !covers z e.key) with
 |false=>
  rw [dF] at e;refine aI (h.2 fun x hx=> ?_);have:=e x hx
  simpa using this
 |true=>
  rw [cO] at e;obtain ⟨x,hx,he⟩:=e;refine aF fun g=> ?_
  rw [h.1 g x hx] at he
  cases he
theorem lead_is(m:gu):yw m=GU m:=by
 unfold yw GU
 congr 1
 ·congr 1
  funext t
  exact (tonly_is t m.want).symm
 ·congr 1
  exact decide_eq_decide.2 ⟨fun h=>h.symm,fun h=>h.symm⟩
theorem items_is(m:gu):yu m=(decide (m.items.length<=32768)&&(m.items.all (Pw m)&&decide (iG m.items=m.items))):=by
 unfold yu
 congr 1
 congr 1
 ·rw [dB]
  congr 1
  funext x
  rw [wrong_is,Bool.not_not]
 ·exact decide_eq_decide.2 ⟨fun h=>h.symm,fun h=>h.symm⟩
theorem txns_is(l:List fI):BM l=(decide (l.length<=4096)&&l.all fQ):=by
 unfold BM
 congr 1
 rw [dB]
 congr 1
 funext x
 rw [Bool.not_not]
def GX(v:Ints):Bool:=decide (v.length<=8)&&(decide (v=trim v)&& !v.any (fun n=>decide (n>1073741824)))
theorem isVec_is(v:Ints):GX v=tJ v:=by
 unfold GX tJ
 congr 1
 congr 1
 ·exact decide_eq_decide.2 ⟨fun h=>h.symm,fun h=>h.symm⟩
 ·rw [dB]
  congr 1
  funext n
  by_cases h:n>1073741824
  ·rw [aI h,aF (show ¬ n<=1073741824 by omega)];rfl
  ·rw [aF h,aI (show n<=1073741824 by omega)];rfl
structure PrgR(m:gu)(r:Bool):Prop where
 uses:oo m=false ->r=false
 t0:¬ 0<=m.ticket ->r=false
 t1:¬ m.ticket<=1073741824 ->r=false
 vec:tJ m.vec=false ->r=false
 from_:tJ m.from_=false ->r=false
 zone:kG m.zone=false ->r=false
 want:kG m.want=false ->r=false
 items:yu m=false ->r=false
 fU:BM m.fU=false ->r=false
 last:oo m=true ->0<=m.ticket ->m.ticket<=1073741824 ->tJ m.vec=true ->tJ m.from_=true ->kG m.zone=true ->kG m.want=true ->yu m=true ->BM m.fU=true ->r=(!decide (m.kind=4)||yw m)
theorem prgR{m:gu}{r:Bool}(hr:fV m=r):PrgR m r:=by
 have e:fV m=(oo m&&(decide (0<=m.ticket)&&(decide (m.ticket<=1073741824)&&(tJ m.vec&&(tJ m.from_&&(kG m.zone&&(kG m.want&&(yu m&&(BM m.fU&&(!decide (m.kind=4)||yw m)))))))))):=by
  rw [items_is,txns_is,lead_is];unfold fV;generalize oo m=a1;generalize decide (0<=m.ticket)=a2;generalize decide (m.ticket<=1073741824)=a3;generalize tJ m.vec=a4;generalize tJ m.from_=a5;generalize kG m.zone=a6;generalize kG m.want=a7;generalize decide (m.items.length<=32768)=a8;generalize decide (m.fU.length<=4096)=a9;generalize m.items.all (Pw m)=b1;generalize decide (iG m.items=m.items)=b2;generalize m.fU.all fQ=b3;generalize (!decide (m.kind=4)||GU m)=b4
  cases a8<;>cases a9<;>simp [Bool.and_assoc]
 rw [hr] at e;subst e;refine ⟨?_,?_,?_,?_,?_,?_,?_,?_,?_,?_⟩
 ·intro h;rw [h];rfl
 ·intro h;rw [aF h];simp
 ·intro h;rw [aF h];simp
 ·intro h;rw [h];simp
 ·intro h;rw [h];simp
 ·intro h;rw [h];simp
 ·intro h;rw [h];simp
 ·intro h;rw [h];simp
 ·intro h;rw [h];simp
 ·intro h1 h2 h3 h4 h5 h6 h7 h8 h9
  rw [h1,h4,h5,h6,h7,h8,h9,aI h2,aI h3];simp
structure jV where
 floor:Ints
 list:List fI
theorem Dj{a b:jV}(h1:a.floor=b.floor)(h2:a.list=b.list):a=b:=by
 cases a;cases b;simp_all
theorem Kl{a b:jV}:a=b↔a.floor=b.floor/\a.list=b.list:=⟨fun e=>by subst e;exact ⟨rfl,rfl⟩,fun ⟨h1,h2⟩=>Dj h1 h2⟩
def oN(v:Ints)(t:fI):Bool:=decide (1<=t.seq)&&decide (t.seq<=iF v t.node)
def oF(p:jV):Ints:=trim (jd p.floor p.list)
def GY(p:jV):Bool:=decide (trim p.floor=p.floor)&&(gX p.floor p.list&&p.list.all fQ)
structure oK(p:jV):Prop where
 floor:trim p.floor=p.floor
 chain:gX p.floor p.list=true
 formed:∀ t∈p.list,fQ t=true
theorem TP{p:jV}:GY p=true↔oK p:=by
 unfold GY;rw [aD,aD,decide_eq_true_iff,aR];exact ⟨fun ⟨a,b,c⟩=>⟨a,b,c⟩,fun h=>⟨h.floor,h.chain,h.formed⟩⟩
def oq(l:List fI)(v:Ints):List fI:=l.filter fun t=> !oN v t
def lS(p:jV)(to:Ints):Ints:=join p.floor (meet to (oF p))
def qC(p:jV)(to:Ints):jV:=⟨lS p to,oq p.list (lS p to)⟩
theorem FH{v:Ints}(h:Short v):trim v=v:=pz (oO _) h fun i=>by rw [qD]
theorem Xt{u v:Ints}(h:Within u v){t:fI}(ht:oN u t=true):oN v t=true:=by
 unfold oN at ht ⊢;rw [aD,decide_eq_true_iff,decide_eq_true_iff] at ht ⊢;refine ⟨ht.1,dG ht.2 ?_⟩;unfold iF
 split
 ·exact h _
 ·exact dD _
theorem vC(p:jV)(i:Nat):says (oF p) i=says (jd p.floor p.list) i:=qD _ _
theorem AQ(p:jV):Short (oF p):=oO _
theorem Mx:∀ {l:List fI} {u v w:Ints},gX u l=true ->(∀ t∈l,oC t=true) ->(∀ i,says w i=max (says v i) (says u i)) ->
  gX w (oq l v)=true/\∀ i,says (jd w (oq l v)) i=max (says v i) (says (jd u l) i)
 |[],u,v,w,_,_,hw=>⟨rfl,hw⟩
 |t::l,u,v,w,hc,hv,hw=>by
  obtain ⟨hr,hc'⟩:=jk.1 hc;have hvt:=hv t dV;obtain ⟨⟨n0,-⟩,-,-⟩:=jl.1 hvt;obtain ⟨r1,r2,r3⟩:=jP.1 hr;rw [lT n0] at r2;have hv':∀ x∈l,oC x=true:=fun x hx=>hv x (bY _ hx)
  have hn:∀ i,says (gZ u t) i=if i=t.node.toNat then t.seq else says u i:=fun i=>by
   rw [jQ];simp [hvt]
  rw [vD];unfold oq
  cases hh:oN v t with
  |true=>
   rw [List.filter_cons_of_neg (by simp [hh])];unfold oN at hh;rw [aD,decide_eq_true_iff,decide_eq_true_iff,lT n0] at hh;refine Mx hc' hv' fun i=> ?_
   rw [hw,hn]
   split
   ·rename_i e
    subst e;omega
   ·rfl
  |false=>
   rw [List.filter_cons_of_pos (by simp [hh])];unfold oN at hh;rw [Bool.and_eq_false_iff,decide_eq_false_iff_not,decide_eq_false_iff_not,lT n0] at hh;have hs:says v t.node.toNat<t.seq:=by
    rcases hh with h|h
    ·omega
    ·omega
   have hwr:gY w t=true:=jP.2 ⟨r1,by rw [lT n0,hw];omega,fun i=>by rw [hw];have:=r3 i;omega⟩;have key:=Mx (v:=v) (w:=gZ w t) hc' hv' fun i=>by
    rw [jQ,hn,hw];simp only [hvt,true_and]
    split
    ·rename_i e
     subst e;omega
    ·rfl
   refine ⟨jk.2 ⟨hwr,key.1⟩,fun i=> ?_⟩;rw [vD];exact key.2 i
theorem oK.valid{p:jV}(h:oK p):∀ t∈p.list,oC t=true:=fun t ht=>lG (h.formed t ht)
theorem pKeeps{p:jV}{v:Ints}(h:oK p)(hw:Within p.floor v):gX v (oq p.list v)=true/\∀ i,says (jd v (oq p.list v)) i=says (join v (oF p)) i:=by
 obtain ⟨a,b⟩:=Mx (v:=v) (w:=v) h.chain h.valid fun i=>by have:=hw i;omega
 exact ⟨a,fun i=>by rw [b,lU,vC]⟩
theorem Xu(p:jV)(to:Ints):Within p.floor (lS p to):=(TQ _ _).1
theorem TR{p:jV}(h:oK p)(to:Ints):Within (lS p to) (oF p):=(TS _ _ _).2 ⟨fun i=>by rw [vC];exact MC h.chain i,(TT _ _).2⟩
theorem ME(p:jV)(to:Ints):trim (lS p to)=lS p to:=FH (oP _ _)
theorem Km{l:List fI}{v:Ints}{t:fI}:t∈oq l v↔t∈l/\oN v t=false:=by
 unfold oq;rw [List.mem_filter]
 cases oN v t<;>simp
theorem wS{p:jV}(h:oK p)(to:Ints):oK (qC p to)/\oF (qC p to)=oF p:=by
 obtain ⟨a,b⟩:=pKeeps h (Xu p to);refine ⟨⟨ME p to,a,fun t ht=>h.formed t (Km.1 ht).1⟩,pz (AQ _) (AQ _) fun i=> ?_⟩;rw [vC]
 show says (jd (lS p to) (oq p.list (lS p to))) i=_
 rw [b,lU];have:=TR h to i;omega
theorem Xv{l:List fI}{u v:Ints}(h:Within u v):oq (oq l u) v=oq l v:=by
 unfold oq;rw [List.filter_filter]
 apply List.filter_congr
 intro t _
 cases e:oN v t with
 |true=>simp
 |false=>
  cases e2:oN u t with
  |false=>rfl
  |true=>rw [Xt h e2] at e;cases e
theorem MF(v:Ints):Within v v:=fun i=>dD _
theorem He(a b:Ints):join (join a b) b=join a b:=pz (oP _ _) (oP _ _) fun i=>by simp only [lU];omega
theorem MH{p:jV}(h:oK p)(to:Ints):qC (qC p to) to=qC p to:=by
 have e:lS (qC p to) to=lS p to:=by
  unfold lS;rw [(wS h to).2];exact He _ _
 refine Dj e ?_
 show oq (oq p.list (lS p to)) (lS (qC p to) to)=oq p.list (lS p to)
 rw [e];exact Xv (MF _)
theorem Xw(l:List fI)(v:Ints):(oq l v).length<=l.length:=List.length_filter_le _ _
theorem Dk(v:Ints)(m i:Nat):says (v.take m) i=if i<m then says v i else 0:=by
 unfold says;simp only [fB,List.getElem?_take]
 split<;>simp
theorem Xx(v:Ints)(t:fI){i:Nat}(h:8<=i):says (gZ v t) i=says v i:=by
 rw [jQ]
 split
 ·rename_i e
  have:=(jl.1 e.1).1;omega
 ·rfl
theorem Hf:∀ (l:List fI) (v:Ints) {i:Nat},8<=i ->says (jd v l) i=says v i
 |[],v,i,_=>rfl
 |t::l,v,i,h=>by rw [vD,Hf l _ h,Xx v t h]
theorem MI:∀ (l:List fI) (u v:Ints) (i:Nat),says u i=says v i ->says (jd u l) i=says (jd v l) i
 |[],u,v,i,h=>h
 |t::l,u,v,i,h=>by
  rw [vD,vD];refine MI l _ _ i ?_;rw [jQ,jQ,h]
def MJ(v:Ints):Ints:=List.replicate (min 8 v.length) 0++v.drop 8
theorem BN(v:Ints)(i:Nat):says (MJ v) i=if i<8 then 0 else says v i:=by
 unfold says MJ;simp only [fB]
 by_cases h:i<min 8 v.length
 ·rw [dI (by rw [bW];exact h),List.getElem?_replicate,if_pos h,if_pos (by omega)]
  rfl
 ·rw [fC (by rw [bW];omega),bW,List.getElem?_drop]
  by_cases h8:i<8
  ·rw [if_pos h8,aW (by omega)]
   rfl
  ·rw [if_neg h8]
   by_cases hl:8<=v.length
   ·rw [show 8+(i-min 8 v.length)=i by omega]
   ·rw [aW (by omega),aW (by omega)]
theorem pEnd_way(p:jV):join (jd (p.floor.take 8) p.list) (MJ p.floor)=oF p:=by
 refine pz (oP _ _) (AQ _) fun i=> ?_
 rw [lU,vC,BN];have h0:=lC (jd (p.floor.take 8) p.list) i;have h1:=lC p.floor i
 by_cases h:i<8
 ·rw [if_pos h,MI p.list (p.floor.take 8) p.floor i (by rw [Dk,if_pos h])] at*
  omega
 ·rw [if_neg h,Hf _ _ (by omega),Hf _ _ (by omega),Dk,if_neg h]
  omega
theorem PO{t:fI}(h:fQ t=true):t.deps.length<=8:=by
 have h2:=(jq.1 h).2.1;unfold Hg at h2;rw [aD,decide_eq_true_iff] at h2;exact h2.1
theorem Xy{d u v:Ints}(hd:d.length<=8)(h:∀ i,i<8 ->says u i=says v i):within d u=within d v:=by
 rw [dO,within_iff,within_iff]
 constructor
 ·exact fun g=>vF fun i hi=>by rw [<-h i (by omega)];exact g i
 ·exact fun g=>vF fun i hi=>by rw [h i (by omega)];exact g i
theorem Xz{u v:Ints}{t:fI}(h:∀ i,i<8 ->says u i=says v i)(hf:fQ t=true):gY u t=gY v t:=by
 have hv:=(jl.1 (lG hf)).1;unfold gY;rw [Xy (PO hf) h,lT hv.1,lT hv.1,h _ (by omega)]
theorem Dl:∀ {l:List fI} {u v:Ints},(∀ i,i<8 ->says u i=says v i) ->(∀ t∈l,fQ t=true) ->gX u l=gX v l
 |[],u,v,_,_=>rfl
 |t::l,u,v,h,hf=>by
  have h1:=Xz h (hf t dV);have h2:gX (gZ u t) l=gX (gZ v t) l:=Dl (fun i hi=>by rw [jQ,jQ,h i hi]) fun x hx=>hf x (bY _ hx)
  rw [dO,jk,jk,h1,h2]
def nV(t:fI):Bool:= !fQ t
theorem TU(p:jV):(decide (p.floor=trim p.floor)&&(!(p.list.any nV)&&gX (p.floor.take 8) p.list))=GY p:=by
 unfold GY;have e1:decide (p.floor=trim p.floor)=decide (trim p.floor=p.floor):=by rw [decide_eq_decide];exact ⟨Eq.symm,Eq.symm⟩
 rw [e1]
 congr 1
 cases h:p.list.any nV with
 |true=>
  have:p.list.all fQ=false:=by
   rw [cO] at h;obtain ⟨t,ht,hu⟩:=h;rw [List.all_eq_false];exact ⟨t,ht,by unfold nV at hu;simpa using hu⟩
  rw [this];simp
 |false=>
  have hf:∀ t∈p.list,fQ t=true:=fun t ht=>by
   have:=dF.1 h t ht;unfold nV at this
   simpa using this
  rw [Dl (v:=p.floor) (fun i hi=>by rw [Dk,if_pos hi]) hf,aR.2 hf];simp
structure pR{α:Type}(p:α ->Bool)(xs ys:List α)(i j:Nat):Prop where
 len:ys.length=xs.length
 lt:i<j
 le:j<=xs.length
 head:ys.take i=(xs.take j).filter fun x=> !p x
 tail:ys.drop j=xs.drop j
theorem filter_all{α:Type}{p:α ->Bool}{l:List α}(h:∀ x∈l,p x=false):(l.filter fun x=> !p x)=l:=dQ.2 fun x hx=>by rw [h x hx];rfl
theorem yx{α:Type}{p:α ->Bool}{l:List α}{x:α}(h:p x=true):((l++[x]).filter fun x=> !p x)=l.filter fun x=> !p x:=by
 rw [List.filter_append,List.filter_cons_of_neg (by simp [h]),List.filter_nil,aV]
theorem FI{α:Type}{p:α ->Bool}{l:List α}{x:α}(h:p x=false):((l++[x]).filter fun x=> !p x)=(l.filter fun x=> !p x)++[x]:=by
 rw [List.filter_append,List.filter_cons_of_pos (by simp [h]),List.filter_nil]
theorem take_at{α:Type}{xs:List α}{k:Nat}(hk:k<xs.length):xs.take (k+1)=xs.take k++[xs[k]]:=bK hk
theorem drop_tail{α:Type}{xs ys:List α}{j:Nat}(h:ys.drop j=xs.drop j):ys.drop (j+1)=xs.drop (j+1):=by
 rw [<-List.drop_drop,<-List.drop_drop,h]
theorem pR.start{α:Type}{p:α ->Bool}{xs:List α}{i:Nat}(hi:i<xs.length)(h:∀ (j:Nat) (hj:j<xs.length),j<i ->p xs[j]=false)(h1:p xs[i]=true):pR p xs xs i (i+1):=by
 refine ⟨rfl,Nat.lt_succ_self _,hi,?_,rfl⟩;rw [take_at hi,yx h1,filter_all];intro x hx;obtain ⟨j,hj,rfl⟩:=bF hx;rw [List.getElem_take];rw [aO] at hj;exact h j (by omega) (by omega)
theorem pR.skip{α:Type}{p:α ->Bool}{xs ys:List α}{i j:Nat}(h:pR p xs ys i j)(hj:j<xs.length)(hp:p xs[j]=true):pR p xs ys i (j+1):=
 ⟨h.len,bG h.lt,hj,by rw [take_at hj,yx hp];exact h.head,drop_tail h.tail⟩
theorem pR.stays{α:Type}{p:α ->Bool}{xs ys:List α}{i j:Nat}(h:pR p xs ys i j)(hj:j<xs.length)(hp:p xs[j]=false):pR p xs (ys.set i xs[j]) (i+1) (j+1):=by
 have hl:=h.len;have hlt:=h.lt;refine ⟨by rw [aX];exact hl,by omega,hj,?_,?_⟩
 ·rw [take_at hj,FI hp,<-h.head,take_at (by rw [aX];omega),List.getElem_set_self,List.take_set_of_le (ah _)]
 ·rw [List.drop_set_of_lt (by omega)]
  exact drop_tail h.tail
theorem pR.at{α:Type}{p:α ->Bool}{xs ys:List α}{i j:Nat}(h:pR p xs ys i j){m:Nat}(hm:j<=m)(hx:m<xs.length):ys[m]? =some xs[m]:=by
 have e:(ys.drop j)[m-j]? =(xs.drop j)[m-j]? :=by rw [h.tail]
 rw [List.getElem?_drop,List.getElem?_drop,show j+(m-j)=m by omega,au hx] at e;exact e
theorem pR.done{α:Type}{p:α ->Bool}{xs ys:List α}{i:Nat}(h:pR p xs ys i xs.length):ys.take i=xs.filter fun x=> !p x:=by rw [h.head,bq]
theorem del_none{α:Type}{p:α ->Bool}{xs:List α}(h:∀ (j:Nat) (hj:j<xs.length),p xs[j]=false):(xs.filter fun x=> !p x)=xs:=filter_all fun x hx=>by
 obtain ⟨j,hj,rfl⟩:=bF hx;exact h j hj
structure fT where
 me:Int
 cores:Int
 store:iP
 past:jV
 known:List Ints
theorem zJ{a b:fT}(h1:a.me=b.me)(h2:a.cores=b.cores)(h3:a.store=b.store)(h4:a.past=b.past)(h5:a.known=b.known):a=b:=by
 cases a;cases b;simp_all
def oQ:fT:=⟨0,0,⟨[],[]⟩,⟨[],[]⟩,[]⟩
def cNew(me:Int)(cores:Nat):fT:=⟨me,cores,⟨[],[]⟩,⟨[],[]⟩,List.replicate cores []⟩
def jw(c:fT)(l:List fI):List fI:=kV c.store.heard l
def nH(c:fT)(l:List fI):fT:={c with store:=qE c.store l,past:=⟨c.past.floor,c.past.list++jw c l⟩}
def uJ(known:List Ints)(me:Int):Nat ->Ints ->Ints
 |0,v=>v
 |k+1,v=>let u:=uJ known me k v;if (k:Int)=me then u else meet u (known.getD k [])
def cTo(c:fT):Ints:=uJ c.known c.me c.cores.toNat c.store.heard
def qF(c:fT):fT:={c with past:=qC c.past (cTo c)}
def vG(c:fT)(j:Nat)(v:Ints):fT:={c with known:=c.known.set j (join (c.known.getD j []) v)}
def FJ(c:fT)(n:Int)(m:gu):Option fT:=
 if fV m=false then none
 else if n=0/\m.kind=6 then some (nH c m.fU)
 else if n=9/\m.kind=6/\m.fU.length=0 then some (qF c)
 else if 1<=n/\n<=c.cores/\m.kind=5 then some (vG c (n-1).toNat m.vec)
 else none
structure pU(c:fT):Prop where
 st:yA c.store
 pa:oK c.past
 same:oF c.past=c.store.heard
 kn:(c.known.length:Int)=c.cores
 kt:∀ v∈c.known,Plain.Short v
 fl:c.past.floor.length<=8
theorem XA:Plain.Short []:=⟨fun i=>by simp,fun k h=>by simp at h⟩
theorem TV(me:Int)(cores:Nat):pU (cNew me cores):=by
 refine ⟨?_,⟨rfl,rfl,fun t h=>by cases h⟩,rfl,by simp [cNew],fun v hv=> ?_,by simp [cNew]⟩
 ·exact Kn.1 (show Dm ⟨[],[]⟩=true by decide)
 ·rw [List.eq_of_mem_replicate hv];exact XA
theorem PW{u v:Ints}{l:List fI}(h:∀ i,says u i=says v i)(hf:∀ t∈l,fQ t=true):gX u l=gX v l:=Dl (fun i _=>h i) hf
theorem XC(u:Ints)(l:List fI):trim (jd u l)=jd (trim u) l:=by
 refine pz (oO _) ?_ fun i=> ?_
 ·by_cases h:l=[]
  ·subst h;exact oO _
  ·exact Hl h
 ·rw [qD]
  exact MI l u (trim u) i (qD _ _).symm
theorem sK{c:fT}{l:List fI}{t:fI}(h:t∈jw c l):fQ t=true:=sM h
theorem Ev(c:fT)(l:List fI):gX c.store.heard (jw c l)=true:=uK _ _
theorem XD{p:jV}{v:Ints}(hv:oF p=v)(a:List fI):oF ⟨p.floor,p.list++a⟩=jd v a:=by
 subst hv;unfold oF
 show trim (jd p.floor (p.list++a))=_
 rw [Ew,XC]
theorem XE{p:jV}{v:Ints}(h:oK p)(hv:oF p=v){a:List fI}(hc:gX v a=true)(hf:∀ t∈a,fQ t=true):oK ⟨p.floor,p.list++a⟩:=by
 refine ⟨h.floor,?_,fun t ht=>(bA.1 ht).elim (h.formed t) (hf t)⟩
 show gX p.floor (p.list++a)=true
 rw [qW,h.chain,aS,<-hc,<-hv];exact PW (fun i=>(vC p i).symm) hf
theorem BO{c:fT}(h:pU c)(l:List fI):pU (nH c l):=
 ⟨(TY l h.st).1,XE h.pa h.same (Ev c l) fun t ht=>sK ht,by
  show oF ⟨c.past.floor,c.past.list++jw c l⟩=(qE c.store l).heard
  rw [XD h.same,Ho]
  rfl,h.kn,h.kt,h.fl⟩
theorem BP{c:fT}(h:pU c):pU (qF c):=
 ⟨h.st,(wS h.pa _).1,(wS h.pa _).2.trans h.same,h.kn,h.kt,by
  have h1:=P9 c.past.floor (meet (cTo c) (oF c.past));have h2:=Hq (cTo c) (oF c.past);have h3:=h.st.len;have h4:=h.fl;rw [h.same] at h1 h2
  show (join c.past.floor (meet (cTo c) (oF c.past))).length<=8
  rw [h.same];omega⟩
theorem Ey{c:fT}(h:pU c)(j:Nat)(v:Ints):pU (vG c j v):=by
 refine ⟨h.st,h.pa,h.same,?_,fun u hu=> ?_,h.fl⟩
 ·show ((c.known.set j _).length:Int)=c.cores
  rw [aX];exact h.kn
 ·rcases List.mem_or_eq_of_mem_set hu with hu|hu
  ·exact h.kt u hu
  ·subst hu;exact oP _ _
theorem XF{c d:fT}{n:Int}{m:gu}(h:pU c)(hd:FJ c n m=some d):pU d:=by
 unfold FJ at hd
 split at hd
 ·cases hd
 split at hd
 ·cases hd;exact BO h _
 split at hd
 ·cases hd;exact BP h
 split at hd
 ·cases hd;exact Ey h _ _
 ·cases hd
theorem XG{c d:fT}{n:Int}{m:gu}(hd:FJ c n m=some d):d.me=c.me/\d.cores=c.cores:=by
 unfold FJ at hd
 split at hd
 ·cases hd
 split at hd
 ·cases hd;exact ⟨rfl,rfl⟩
 split at hd
 ·cases hd;exact ⟨rfl,rfl⟩
 split at hd
 ·cases hd;exact ⟨rfl,rfl⟩
 ·cases hd
theorem MN(c:fT)(l:List fI):nH (nH c l) l=nH c l:=by
 obtain ⟨h1,h2⟩:=T9 c.store l;refine zJ rfl rfl h2 (Dj rfl ?_) rfl
 show c.past.list++jw c l++kV (qE c.store l).heard l=c.past.list++jw c l
 rw [h1,aV]
theorem MO{c:fT}(h:oK c.past):qF (qF c)=qF c:=zJ rfl rfl rfl (MH h _) rfl
theorem Qa(c:fT){j:Nat}(hj:j<c.known.length)(v:Ints):vG (vG c j v) j v=vG c j v:=by
 refine zJ rfl rfl rfl rfl ?_
 show (c.known.set j (join (c.known.getD j []) v)).set j (join ((c.known.set j (join (c.known.getD j []) v)).getD j []) v)=c.known.set j (join (c.known.getD j []) v)
 have e:(c.known.set j (join (c.known.getD j []) v)).getD j []=join (c.known.getD j []) v:=by simp [List.getD,hj]
 rw [e,He,List.set_set]
theorem XH{c d:fT}{n:Int}{m:gu}(h:pU c)(hd:FJ c n m=some d):FJ d n m=some d:=by
 have hs:=XF h hd;have hk:=XG hd;unfold FJ at hd ⊢
 by_cases h0:fV m=false
 ·rw [if_pos h0] at hd;cases hd
 rw [if_neg h0] at hd ⊢
 by_cases h1:n=0/\m.kind=6
 ·rw [if_pos h1] at hd ⊢
  cases hd
  rw [MN]
 rw [if_neg h1] at hd ⊢
 by_cases h2:n=9/\m.kind=6/\m.fU.length=0
 ·rw [if_pos h2] at hd ⊢
  cases hd
  rw [MO h.pa]
 rw [if_neg h2] at hd ⊢;rw [hk.2]
 by_cases h3:1<=n/\n<=c.cores/\m.kind=5
 ·rw [if_pos h3] at hd ⊢
  cases hd
  rw [Qa c (by have:=h.kn;omega)]
 ·rw [if_neg h3] at hd;cases hd
def BQ(c:fT)(frm:Int)(m:gu):Option (Int×gu):=
 if fV m=false\/frm<0\/7<frm\/frm=c.me then none
 else if (m.kind=1/\c.cores<=frm)\/(m.kind=6/\frm<c.cores) then (if (jw c m.fU).length=0 then none else some (0,{lQ with kind:=6,fU:=jw c m.fU}))
 else if m.kind=5/\frm<c.cores/\within m.vec (c.known.getD frm.toNat [])=false then some (1+frm,m)
 else none
def Ws(c:fT)(m:gu):Prop:=¬ Within c.past.floor m.vec
instance (c:fT) (m:gu):Decidable (Ws c m):=decidable_of_iff (within c.past.floor m.vec=false) (by unfold Ws;rw [<-within_iff];simp)
theorem Ua:iG []=[]:=aK (Nat.le_zero.1 (Ko []))
theorem Kq:kG []=true:=by decide
theorem Qb:tJ []=true:=by decide
theorem Ez{l:List fI}(h:∀ t∈l,fQ t=true)(hl:l.length<=4096):fV {lQ with kind:=6,fU:=l}=true:=by
 refine kJ.2 ⟨by simp [oo,lQ],by simp [lQ],by simp [lQ],Qb,Qb,Kq,Kq,by simp [lQ],hl,(fun x hx=>by cases hx),Ua,h,(fun k=>by simp at k)⟩
theorem MQ{c:fT}{l:List fI}(hc:gX c.store.heard l=true)(hf:∀ t∈l,fQ t=true):jw c l=l:=by
 have e:oG l=l:=dQ.2 hf;unfold jw kV;rw [e,Hr hc]
end Go.Proofs.YtfgcodcablpdcaaGreat.Plain