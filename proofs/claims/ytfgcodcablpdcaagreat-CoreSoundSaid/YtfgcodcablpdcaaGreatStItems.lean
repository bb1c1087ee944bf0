import Derived.Test.YtfgcodcablpdcaaGreatICompare
set_option linter.unusedVariables false
set_option maxRecDepth 100000
set_option maxHeartbeats 64000000
namespace Go.Proofs.YtfgcodcablpdcaaGreat
open Go.Proofs.Tryz
open Go.RowKit Plain
theorem VJ:prog.underlying 77=some (.struct (prog.fieldsOf 77)):=by kernel_rfl
theorem held_dot:prog.stoodInHeld 77=false:=by kernel_rfl
theorem Sz:prog.underlying 79=some (.struct (prog.fieldsOf 79)):=by kernel_rfl
theorem ZR:prog.stoodInHeld 79=false:=by kernel_rfl
theorem dot_dec(d e:gB):decide (d=e)=(decide (d.node=e.node)&&(decide (d.seq=e.seq)&&decide (d.pos=e.pos))):=by
 rw [dO,aD,aD,decide_eq_true_iff,decide_eq_true_iff,decide_eq_true_iff,decide_eq_true_iff];exact ⟨fun h=>by subst h;exact ⟨rfl,rfl,rfl⟩,fun ⟨h1,h2,h3⟩=>yQ h1 h2 h3⟩
theorem item_dec(x y:fK):decide (x=y)=(decide (x.key=y.key)&&(decide (x.field=y.field)&&(decide (x.kind=y.kind)&&(decide (x.elem=y.elem)&&(decide (x.n=y.n)&&decide (x.dot=y.dot)))))):=by
 rw [dO];simp only [aD,decide_eq_true_iff]
 exact ⟨fun h=>by subst h;exact ⟨rfl,rfl,rfl,rfl,rfl,rfl⟩,fun ⟨h1,h2,h3,h4,h5,h6⟩=>DU h1 h2 h3 h4 h5 h6⟩
theorem eq_dot(k:Nat)(d e:gB)(w:World):(Op.equalIn (k+2) 77 (.agg #[.int .i64 d.node,.int .i64 d.seq,.int .i64 d.pos]) (.agg #[.int .i64 e.node,.int .i64 e.seq,.int .i64 e.pos])).run prog w= .ok (decide (d=e)) w:=by
 rw [run_equalIn_agg w (k+1) _ _ _ VJ held_dot,dot_dec];simp [Program.fieldsOf,underlying77,underlying3,Tryz.isAgg3,Tryz.sizeOf3,Op.eqFields,go_sem]
 by_cases h1:d.node=e.node
 ·by_cases h2:d.seq=e.seq
  ·by_cases h3:d.pos=e.pos<;>simp [h1,h2,h3]
  ·simp [h1,h2]
 ·simp [h1]
theorem OQ(s t:iE):((bt s).toList==(bt t).toList)=decide (s=t):=zP s t
theorem eq_item(k:Nat)(x y:fK)(w:World):(Op.equalIn (k+3) 79 (.agg #[.string (bt x.key),.string (bt x.field),.int .i64 x.kind,.string (bt x.elem),.int .i64 x.n,.int .i64 x.dot.node,.int .i64 x.dot.seq,.int .i64 x.dot.pos])
  (.agg #[.string (bt y.key),.string (bt y.field),.int .i64 y.kind,.string (bt y.elem),.int .i64 y.n,.int .i64 y.dot.node,.int .i64 y.dot.seq,.int .i64 y.dot.pos])).run prog w= .ok (decide (x=y)) w:=by
 rw [run_equalIn_agg w (k+2) _ _ _ Sz ZR,item_dec];have e1:=OQ x.key y.key;have e2:=OQ x.field y.field;have e3:=OQ x.elem y.elem;have e4:=eq_dot k x.dot y.dot w;generalize bt x.key=K1 at*;generalize bt y.key=K2 at*;generalize bt x.field=F1 at*;generalize bt y.field=F2 at*;generalize bt x.elem=E1 at*;generalize bt y.elem=E2 at*
 by_cases h1:x.key=y.key
 ·by_cases h2:x.field=y.field
  ·by_cases h3:x.kind=y.kind
   ·by_cases h4:x.elem=y.elem
    ·by_cases h5:x.n=y.n
     ·generalize decide (x.dot=y.dot)=b at*
      cases b
      ·simp [Program.fieldsOf,underlying79,underlying3,underlying2,underlying9,Tryz.isAgg3,Tryz.isAgg2,Tryz.isAgg9,Tryz.isAgg77,Tryz.sizeOf77,Op.eqFields,run_equalIn_int,run_equalIn_string,part,e1,e2,e3,e4,h1,h2,h3,h4,h5]
      ·simp [Program.fieldsOf,underlying79,underlying3,underlying2,underlying9,Tryz.isAgg3,Tryz.isAgg2,Tryz.isAgg9,Tryz.isAgg77,Tryz.sizeOf77,Op.eqFields,run_equalIn_int,run_equalIn_string,part,e1,e2,e3,e4,h1,h2,h3,h4,h5]
     ·simp [Program.fieldsOf,underlying79,underlying3,underlying2,underlying9,Tryz.isAgg3,Tryz.isAgg2,Tryz.isAgg9,Op.eqFields,run_equalIn_int,run_equalIn_string,part,e1,e2,e3,h1,h2,h3,h4,h5]
    ·simp [Program.fieldsOf,underlying79,underlying3,underlying2,underlying9,Tryz.isAgg3,Tryz.isAgg2,Tryz.isAgg9,Op.eqFields,run_equalIn_int,run_equalIn_string,part,e1,e2,e3,h1,h2,h3,h4]
   ·simp [Program.fieldsOf,underlying79,underlying3,underlying2,underlying9,Tryz.isAgg3,Tryz.isAgg2,Tryz.isAgg9,Op.eqFields,run_equalIn_int,run_equalIn_string,part,e1,e2,h1,h2,h3]
  ·simp [Program.fieldsOf,underlying79,underlying3,underlying2,underlying9,Tryz.isAgg3,Tryz.isAgg2,Tryz.isAgg9,Op.eqFields,run_equalIn_int,run_equalIn_string,part,e1,e2,h1,h2]
 ·simp [Program.fieldsOf,underlying79,underlying3,underlying2,underlying9,Tryz.isAgg3,Tryz.isAgg2,Tryz.isAgg9,Op.eqFields,run_equalIn_int,run_equalIn_string,part,e1,h1]
theorem SC(x y:fK)(w:World):(binOp .neq 79 (.agg #[.string (bt x.key),.string (bt x.field),.int .i64 x.kind,.string (bt x.elem),.int .i64 x.n,.int .i64 x.dot.node,.int .i64 x.dot.seq,.int .i64 x.dot.pos])
  (.agg #[.string (bt y.key),.string (bt y.field),.int .i64 y.kind,.string (bt y.elem),.int .i64 y.n,.int .i64 y.dot.node,.int .i64 y.dot.seq,.int .i64 y.dot.pos])).run prog w= .ok (.bool (!decide (x=y))) w:=by
 rw [run_neq_struct,eq_item 9997]
 rfl
end Go.Proofs.YtfgcodcablpdcaaGreat
set_option maxRecDepth 100000
set_option maxHeartbeats 64000000
namespace Go.Proofs.YtfgcodcablpdcaaGreat
open Go.Proofs.Tryz
open Go.RowKit Plain
theorem VK{u v:Value}{xs ys:List fK}{w:World}(hu:fM gG w u xs)(hv:fM gG w v ys):
  Calls prog 93 #[u,v] w fun e w'=>e= .returned (.bool (decide (xs=ys)))/\∃ n,w'=w.drewN n:=by
 obtain ⟨a,cap,rfl,g1,g2,g0,h⟩:=hu.parts;obtain ⟨a',cap',rfl,e1,e2,e0,h'⟩:=hv.parts
 by_cases hl:xs.length=ys.length
 ·obtain ⟨n,hN⟩:∃ n,xs.length=n:=⟨_,rfl⟩
  have hM:ys.length=n:=by omega
  have hT:(∀ j,j<n ->xs.getD j default=ys.getD j default) ->decide (xs=ys)=true:=fun hall=>aI (by
   apply bT hl
   intro j h1 h2;have:=hall j (by omega)
   simpa [List.getD,List.getElem?_eq_getElem h1,List.getElem?_eq_getElem h2] using this)
  have hF:∀ j,¬ xs.getD j default=ys.getD j default ->decide (xs=ys)=false:=fun j hne=>aF (by
   intro e;subst e;exact hne rfl)
  have HT:=zH hT;have HF:=zH hF;generalize decide (xs=ys)=r at*;rw [hN] at h g1 ⊢;rw [hM] at h' e1 ⊢;have HS:=zH h;have HS':=zH h';have LN:=zH hN;have LM:=zH hM;clear hu hv h h' g0 e0 hl hT hF hN hM;go_enter func93,ntmps93
  go_wp2_with fail
  go_loopw [5] (fun i wr=>∃ k:Nat,k<=n/\i= .int .i64 k/\(∀ j,j<k ->xs.getD j default=ys.getD j default)/\∃ q,wr=w.drewN q) (fun i _=>n-(intOf i).toNat)
  case atStart=>exact ⟨0,aL _,rfl,(fun j hj=>absurd hj (by omega)),0,rfl⟩
  case round=>
   obtain ⟨k,hk,rfl,hall,q,rfl⟩:=hrel;have qb:=zH hall;clear hall
   by_cases hlt:k<n
   ·obtain ⟨b,o,c,hv,-,-,-,hc⟩:=nP HS.o (by rw [LN.o];omega)
    rw [LN.o] at hv;simp only [aC] at hv
    obtain ⟨rfl,-,rfl⟩:=hv;obtain ⟨b',o',c',hv',-,-,-,hc'⟩:=nP HS'.o (by rw [LM.o];omega);rw [LM.o] at hv';simp only [aC] at hv'
    obtain ⟨rfl,-,rfl⟩:=hv';obtain ⟨c0,c1,c2,c3,c4,c5,c6,c7⟩:=hc k (by rw [LN.o];exact hlt);obtain ⟨d0,d1,d2,d3,d4,d5,d6,d7⟩:=hc' k (by rw [LM.o];exact hlt);have xP:=zH (HF.o k);have EZ:Hid (xs.getD k default=ys.getD k default ->∀ j,j<k+1 ->xs.getD j default=ys.getD j default):=zH (fun he j hj=>by
     by_cases e:j=k
     ·rw [e];exact he
     ·exact qb.o j (by omega))
    clear hc hc';generalize xs.getD k default=x at*;generalize ys.getD k default=y at*;have hq:=SC x y
    by_cases he:x=y
    ·have HX:=zH (EZ.o he)
     rw [aI he] at hq;clear he EZ xP;go_wp2_with fail
     go_quiet (fail)
     go_wp2_with fail
     go_roundw
     case rel=>exact ⟨k+1,by omega,by go_num,HX.o,_,rfl⟩
     case measure=>simp [intOf];omega
    ·obtain rfl:r=false:=xP.o he
     rw [aF he] at hq;clear he EZ xP;go_wp2_with fail
     go_quiet (fail)
     go_wp2_with fail
     go_ret
     exact ⟨rfl,_,fA _ _ _⟩
   ·obtain rfl:k=n:=by omega
    obtain rfl:r=true:=HT.o qb.o;go_wp2_with fail
    go_ret
    exact ⟨rfl,_,rfl⟩
 ·have hne:((xs.length:Int)==(ys.length:Int))=false:=by simp;omega
  rw [aF (by intro e;subst e;exact hl rfl)];clear hu hv h h' g0 e0 g1 g2 e1 e2;generalize xs.length=n at*;generalize ys.length=m at*;go_enter func93,ntmps93
  go_wp2_with fail
  go_ret
  exact ⟨rfl,0,rfl⟩
theorem rsameIR{u v:Value}{xs ys:List fK}{w:World}{r:Bool}(hu:fM gG w u xs)(hv:fM gG w v ys)(e:decide (xs=ys)=r):
  Calls prog 93 #[u,v] w fun e w'=>e= .returned (.bool r)/\Below w.heap.size w w':=by
 rw [<-e];exact (VK hu hv).mono fun _ _ ⟨h,n,hw⟩=>⟨h,by rw [hw];exact below_drewN (aj _ _) n⟩
def tailP(a b:fK):Prop:=a.kind<b.kind\/(a.kind=b.kind/\(a.dot.node<b.dot.node\/(a.dot.node=b.dot.node/\(a.dot.seq<b.dot.seq\/(a.dot.seq=b.dot.seq/\(a.dot.pos<b.dot.pos\/(a.dot.pos=b.dot.pos/\(a.elem<b.elem\/(a.elem=b.elem/\a.n<b.n)))))))))
instance (a b:fK):Decidable (tailP a b):=by unfold tailP;infer_instance
end Go.Proofs.YtfgcodcablpdcaaGreat
set_option maxRecDepth 100000
set_option maxHeartbeats 64000000
namespace Go.Proofs.YtfgcodcablpdcaaGreat
open Go.Proofs.Tryz
open Go.RowKit Plain
def nJ(xs:List iE):Bool:=decide (xs.length<=60)&&xs.all fun t=>decide (t.length<=200)
theorem zK{xs:List iE}:nJ xs=true↔xs.length<=60/\∀ t∈xs,t.length<=200:=by
 unfold nJ;simp
theorem VO{u:Value}{xs:List iE}{w:World}(hu:kD w u xs):
  Calls prog 51 #[u] w fun e w'=>e= .returned (.bool (nJ xs))/\w=w':=by
 obtain ⟨a,cap,rfl,g1,g2,g0,h⟩:=hu.parts;have hmx:maxLen=9223372036854775807:=rfl;rw [hmx] at g2;obtain ⟨n,hN⟩:∃ n,xs.length=n:=⟨_,rfl⟩;have hT:n<=60 ->(∀ j,j<n ->(xs.getD j []).length<=200) ->nJ xs=true:=fun h1 h2=>zK.2 ⟨by omega,fun t ht=>by
  obtain ⟨j,hj,rfl⟩:=mem_at ht;exact h2 j (by omega)⟩
 have hF:∀ j,j<n ->¬ (xs.getD j []).length<=200 ->nJ xs=false:=fun j hj hne=>by
  cases e:nJ xs with
  |false=>rfl
  |true=>exact absurd ((zK.1 e).2 _ (mem_getD (by omega))) hne
 have hG:¬ n<=60 ->nJ xs=false:=fun hne=>by
  cases e:nJ xs with
  |false=>rfl
  |true=>exact absurd (by have:=(zK.1 e).1;omega) hne
 have HT:=zH hT;have HF:=zH hF;have HG:=zH hG;generalize nJ xs=r at*;rw [hN] at h g1 ⊢;have HS:=zH h;have LN:=zH hN;clear hu h g0 hmx hT hF hG hN
 by_cases hl:n<=60
 ·have hl':¬ (60:Int)<n:=by omega
  go_enter func51,ntmps51
  go_wp2_with fail
  go_loop [3] (fun i=>∃ k:Nat,k<=n/\i= .int .i64 k/\∀ j,j<k ->(xs.getD j []).length<=200) (fun i=>n-(intOf i).toNat)
  case atStart=>exact ⟨0,aL _,rfl,fun j hj=>absurd hj (by omega)⟩
  case round=>
   obtain ⟨k,hk,rfl,hall⟩:=hrel;have qb:=zH hall;clear hall
   by_cases hlt:k<n
   ·obtain ⟨b,o,c,hv,-,-,-,hc⟩:=HS.o.spot (by rw [LN.o];omega)
    rw [LN.o] at hv;simp only [aC] at hv
    obtain ⟨rfl,-,rfl⟩:=hv;have c1:=hc k (by rw [LN.o];exact hlt);unfold tv at c1;have z1:=nZ (xs.getD k []);clear hc
    by_cases he:(xs.getD k []).length<=200
    ·have Rh:Hid (∀ j,j<k+1 ->(xs.getD j []).length<=200):=zH (fun j hj=>by
      by_cases h:j<k
      ·exact qb.o j h
      ·obtain rfl:j=k:=by omega
       exact he)
     generalize bt (xs.getD k [])=X at*;generalize (xs.getD k []).length=l at*;go_wp2_with fail
     go_round
     case rel=>exact ⟨k+1,by omega,by go_num,Rh.o⟩
     case measure=>simp [intOf];omega
    ·obtain rfl:r=false:=HF.o k hlt he
     generalize bt (xs.getD k [])=X at*;generalize (xs.getD k []).length=l at*;go_wp2_with fail
     go_ret
     exact ⟨rfl,rfl⟩
   ·obtain rfl:k=n:=by omega
    obtain rfl:r=true:=HT.o hl qb.o;go_wp2_with fail
    go_ret
    exact ⟨rfl,rfl⟩
 ·obtain rfl:r=false:=HG.o hl
  have hl':(60:Int)<n:=by omega
  go_enter func51,ntmps51
  go_wp2_with fail
  go_ret
  exact ⟨rfl,rfl⟩
def SmallI(xs:List fK):Prop:=xs.length<=200/\∀ x∈xs,rC x=true/\jf x.dot
theorem SmallI.key{xs:List fK}(h:SmallI xs):∀ x∈xs,x.key.length<=1000000:=fun x hx=>by have:=(AV.1 (h.2 x hx).1).1;omega
theorem Qc{u:Value}{xs:List iE}{w:World}{r:Bool}(hu:kD w u xs)(e:nJ xs=r):Calls prog 51 #[u] w (fO w r):=by
 rw [<-e];exact (VO hu).mono fun _ _ ⟨h,hw⟩=>⟨h,by rw [hw];exact aj _ _⟩
theorem rshortR{u:Value}{xs:List fK}{w:World}{r:Bool}(hu:fM gG w u xs)(e:qG xs=r):Calls prog 52 #[u] w (fO w r):=by
 rw [<-e];exact (Si hu).mono fun _ _ ⟨h,hw⟩=>⟨h,Av hw⟩
end Go.Proofs.YtfgcodcablpdcaaGreat
set_option maxRecDepth 100000
set_option maxHeartbeats 64000000
namespace Go.Proofs.YtfgcodcablpdcaaGreat
open Go.Proofs.Tryz
open Go.RowKit Plain
theorem EW{u v:Value}{xs ys:List fK}{w:World}(hu:fM gG w u xs)(hv:fM gG w v ys):
  Calls prog 78 #[u,v] w fun e w'=>e= .returned (.bool (decide (xs=ys)))/\∃ n,w'=w.drewN n:=by
 obtain ⟨a,cap,rfl,g1,g2,g0,h⟩:=hu.parts;obtain ⟨a',cap',rfl,e1,e2,e0,h'⟩:=hv.parts
 by_cases hl:xs.length=ys.length
 ·obtain ⟨n,hN⟩:∃ n,xs.length=n:=⟨_,rfl⟩
  have hM:ys.length=n:=by omega
  have hT:(∀ j,j<n ->xs.getD j default=ys.getD j default) ->decide (xs=ys)=true:=fun hall=>aI (by
   apply bT hl
   intro j h1 h2;have:=hall j (by omega)
   simpa [List.getD,List.getElem?_eq_getElem h1,List.getElem?_eq_getElem h2] using this)
  have hF:∀ j,¬ xs.getD j default=ys.getD j default ->decide (xs=ys)=false:=fun j hne=>aF (by
   intro e;subst e;exact hne rfl)
  have HT:=zH hT;have HF:=zH hF;generalize decide (xs=ys)=r at*;rw [hN] at h g1 ⊢;rw [hM] at h' e1 ⊢;have HS:=zH h;have HS':=zH h';have LN:=zH hN;have LM:=zH hM;clear hu hv h h' g0 e0 hl hT hF hN hM;go_enter func78,ntmps78
  go_wp2_with fail
  go_loopw [13] (fun i wr=>∃ k:Nat,k<=n/\i= .int .i64 k/\(∀ j,j<k ->xs.getD j default=ys.getD j default)/\∃ q,wr=w.drewN q) (fun i _=>n-(intOf i).toNat)
  case atStart=>exact ⟨0,aL _,rfl,(fun j hj=>absurd hj (by omega)),0,rfl⟩
  case round=>
   obtain ⟨k,hk,rfl,hall,q,rfl⟩:=hrel;have qb:=zH hall;clear hall
   by_cases hlt:k<n
   ·obtain ⟨b,o,c,hv,-,-,-,hc⟩:=nP HS.o (by rw [LN.o];omega)
    rw [LN.o] at hv;simp only [aC] at hv
    obtain ⟨rfl,-,rfl⟩:=hv;obtain ⟨b',o',c',hv',-,-,-,hc'⟩:=nP HS'.o (by rw [LM.o];omega);rw [LM.o] at hv';simp only [aC] at hv'
    obtain ⟨rfl,-,rfl⟩:=hv';obtain ⟨c0,c1,c2,c3,c4,c5,c6,c7⟩:=hc k (by rw [LN.o];exact hlt);obtain ⟨d0,d1,d2,d3,d4,d5,d6,d7⟩:=hc' k (by rw [LM.o];exact hlt);have xP:=zH (HF.o k);have EZ:Hid (xs.getD k default=ys.getD k default ->∀ j,j<k+1 ->xs.getD j default=ys.getD j default):=zH (fun he j hj=>by
     by_cases e:j=k
     ·rw [e];exact he
     ·exact qb.o j (by omega))
    clear hc hc';generalize xs.getD k default=x at*;generalize ys.getD k default=y at*;have hq:=SC x y
    by_cases he:x=y
    ·have HX:=zH (EZ.o he)
     rw [aI he] at hq;clear he EZ xP;go_wp2_with fail
     go_quiet (fail)
     go_wp2_with fail
     go_roundw
     case rel=>exact ⟨k+1,by omega,by go_num,HX.o,_,rfl⟩
     case measure=>simp [intOf];omega
    ·obtain rfl:r=false:=xP.o he
     rw [aF he] at hq;clear he EZ xP;go_wp2_with fail
     go_quiet (fail)
     go_wp2_with fail
     go_ret
     exact ⟨rfl,_,fA _ _ _⟩
   ·obtain rfl:k=n:=by omega
    obtain rfl:r=true:=HT.o qb.o;go_wp2_with fail
    go_ret
    exact ⟨rfl,_,rfl⟩
 ·have hne:((xs.length:Int) !=(ys.length:Int))=true:=bne_iff_ne.2 (by omega)
  rw [aF (by intro e;subst e;exact hl rfl)];clear hu hv h h' g0 e0 g1 g2 e1 e2;generalize xs.length=n at*;generalize ys.length=m at*;go_enter func78,ntmps78
  go_wp2_with fail
  go_ret
  exact ⟨rfl,0,rfl⟩
theorem SG{v:Value}{ds:List fK}{w:World}(hv:fM gG w v ds)(hn:ds.length<=1000000)(p:fK ->Bool)(g:Nat)(lb:Array Value)
  (eg:∀ args w,(callFunc g args).run prog w= .ok (.enter g args) w)
  (hp:∀ W d,Below w.heap.size w W ->Calls prog g (#[Ym d]++lb) W (fO W (p d))):
  Calls prog 220 #[v,.func (.func g) #[] lb] w fun e w'=>∃ r:Int,e= .returned (.int .i64 r)/\decide (0<=r)=ds.any p/\Below w.heap.size w w':=by
 obtain ⟨a,cap,rfl,g1,g2,g0,h⟩:=hv.parts;have HS:=zH h;have HP:=zH hp;have HY:Hid (∀ k,k<ds.length ->p (ds.getD k default)=true ->ds.any p=true):=zH (fun k hk h=>by
  rw [cO];exact ⟨_,by rw [show ds.getD k default=ds[k] by simp [List.getD,List.getElem?_eq_getElem hk]];exact aU hk,h⟩)
 have HN:Hid ((∀ j,j<ds.length ->p (ds.getD j default)=false) ->ds.any p=false):=zH (fun h=>by
  rw [dF];intro d hd;obtain ⟨j,hj,rfl⟩:=bF hd;have:=h j hj;rw [show ds.getD j default=ds[j] by simp [List.getD,List.getElem?_eq_getElem hj]] at this;rw [this]
  decide)
 clear hp hv h g0;obtain ⟨n,hN⟩:∃ n,ds.length=n:=⟨_,rfl⟩;rw [hN] at hn g1 HS HY HN ⊢;have LN:=zH hN;clear hN;generalize ds.any p=r at*;go_enter func220,ntmps220
 go_wp2_with fail
 go_loopw [8] (fun i wr=>∃ k:Nat,k<=n/\i= .int .i64 k/\(∀ j,j<k ->p (ds.getD j default)=false)/\Below w.heap.size w wr) (fun i _=>n-(intOf i).toNat)
 case atStart=>exact ⟨0,aL _,rfl,fun j hj=>absurd hj (by omega),aj _ _⟩
 case round=>
  obtain ⟨k,hk,rfl,hall,hb⟩:=hrel;have HA:=zH hall;have HB:=zH hb;clear hall hb
  by_cases hlt:k<n
  ·obtain ⟨b,o,c,hv,-,-,-,hc⟩:=nP (HS.o.below HB.o) (by rw [LN.o];omega)
   rw [LN.o] at hv;simp only [aC] at hv
   obtain ⟨rfl,-,rfl⟩:=hv;obtain ⟨c0,c1,c2,c3,c4,c5,c6,c7⟩:=hc k (by rw [LN.o];exact hlt);have HYK:=zH (HY.o k hlt);have JV:Hid (p (ds.getD k default)=false ->∀ j,j<k+1 ->p (ds.getD j default)=false):=zH (fun h j hj=>by
    by_cases e:j=k
    ·rw [e];exact h
    ·exact HA.o j (by omega))
   have K:=HP.o wr (ds.getD k default) HB.o;clear hc;rw [Gj] at K;generalize ds.getD k default=d at*
   cases zO:p d with
   |true=>
    rw [zO] at K;obtain rfl:r=true:=HYK.o zO;clear zO;go_wp2_with (go_at_fn g;refine K.mono ?_;rintro e w1 ⟨rfl,hb⟩)
    have G:=zH (HB.o.trans (hb.mono HB.o.size));clear hb c0 c1 c2 c3 c4 c5 c6 c7 K;go_wp2_with fail
    go_ret
    exact ⟨k,rfl,by simp,G.o⟩
   |false=>
    rw [zO] at K;have HX:=zH (JV.o zO);clear zO;go_wp2_with (go_at_fn g;refine K.mono ?_;rintro e w1 ⟨rfl,hb⟩)
    have G:=zH (HB.o.trans (hb.mono HB.o.size));clear hb c0 c1 c2 c3 c4 c5 c6 c7 K;go_wp2_with fail
    go_roundw
    case rel=>exact ⟨k+1,by omega,by go_num,HX.o,G.o⟩
    case measure=>simp [intOf];omega
  ·obtain rfl:k=n:=by omega
   obtain rfl:r=false:=HN.o HA.o;go_wp2_with fail
   go_ret
   exact ⟨-1,rfl,by decide,HB.o⟩
theorem y9{v:Value}{ds:List fK}{w:World}(hv:fM gG w v ds)(hn:ds.length<=1000000)(p:fK ->Bool)(g:Nat)(lb:Array Value)
  (eg:∀ args w,(callFunc g args).run prog w= .ok (.enter g args) w)
  (hp:∀ W d,Below w.heap.size w W ->Calls prog g (#[Ym d]++lb) W (fO W (p d))):
  Calls prog 155 #[v,.func (.func g) #[] lb] w (fO w (ds.any p)):=by
 have K:=SG hv hn p g lb eg hp;obtain ⟨a,cap,rfl,-⟩:=hv.parts;generalize ds.any p=r at*;generalize ds.length=n at*;clear hv hp;go_enter func155,ntmps155
 go_wp2_with fail
 refine K.mono ?_;rintro e w1 ⟨q,rfl,hq,hb⟩;have G:=zH hb;clear hb K;subst hq;go_wp2_with fail
 go_ret
 exact ⟨rfl,G.o⟩
def sD(f:Nat ->List fK):Nat ->List fK
 |0=>[]
 |k+1=>sD f k++f k
theorem Ak(f:Nat ->List fK)(k n:Nat)(h:k<=n):(sD f k).length<=(sD f n).length:=by
 induction n with
 |zero=>
  obtain rfl:k=0:=by omega
  exact ah _
 |succ n ih=>
  by_cases e:k=n+1
  ·subst e;exact ah _
  ·have:=ih (by omega)
   rw [sD,aA];omega
theorem ZU(n:Nat)(hn:n<=1073741824)(w:World):Calls prog 288 #[.slice none 0 0,.int .i64 n] w (vQ gG w []):=by
 obtain ⟨i0,hi,hz0,hz1,hz2⟩:=Co gG;have hk8:gG.k=8:=rfl;have hb88:gG.bytes=88:=rfl;rw [hk8] at hz1;rw [hb88] at hz2
 by_cases h0:n=0
 ·subst h0
  go_enter func288,ntmps288
  go_wp2_with fail
  go_ret
  exact ⟨_,rfl,gy.nil _ _,aj _ _⟩
 ·have hp:0<n:=by omega
  have hr:=Lib.run_append_nil_zeros (P:=prog) w 26 3 26 79 i0 tY .i64 .i64 underlying26 underlying3 hi hz0 n hp (by omega) (by omega) (by rw [hz2];omega);have hge:=grownCap_ge w n 0 79;have hcm:grownCap w n 0 79<=maxLen:=grownCap_le_maxLen w n 0 79 (by unfold maxLen;omega);have hO:gy gG w.heap.size (w.drew.alloc (.cells (Builtin.zeroCells tY.cells n++Builtin.zeroCells tY.cells (grownCap w n 0 79-n)) 79)) (.slice (some ⟨w.heap.size,0,none⟩) 0 (grownCap w n 0 79)) []:=by
   refine ⟨[],World.ownsRow_made (size:=8) w.drew _ _ (ah _) hcm ?_,Rows.nil _ _⟩;have hz1:tY.cells.size=8:=rfl;simp only [Array.size_append,size_zeroCells,hz1]
   omega
  have hB:Below w.heap.size w (w.drew.alloc (.cells (Builtin.zeroCells tY.cells n++Builtin.zeroCells tY.cells (grownCap w n 0 79-n)) 79)):=(aj _ _).drew.alloc (ah _) _;have HO:=zH hO;have HB:=zH hB;have HR:=zH hr;have hm:maxLen=9223372036854775807:=rfl;rw [hm] at hcm;clear hO hB hr hz0 hz1 hz2 hi hm h0;generalize hG:grownCap w n 0 79=G at*;clear hG;generalize (Builtin.zeroCells tY.cells n++Builtin.zeroCells tY.cells (G-n))=Z at*;go_enter func288,ntmps288
  go_wp2_with (at_builtin;refine Lib.wpList_append_run _ rfl _ _ _ _ rfl _ _ rfl rfl _ _ HR.o ?_)
  go_ret
  exact ⟨_,rfl,HO.o,HB.o⟩
theorem SH(b n c:Nat)(vs:Nat ->Value)(f:Nat ->List fK)(w:World)(hn:n<=1000)(hc:∀ j,j<n ->w.cell? ⟨b,j,none⟩=some (vs j))(hs:∀ j,j<n ->fM gG w (vs j) (f j))(hlen:(sD f n).length<=1000000000):
  Calls prog 238 #[.slice (some ⟨b,0,none⟩) n c] w (vQ gG w (sD f n)):=by
 have HC:=zH hc;have HS:=zH hs;clear hc hs;go_enter func238,ntmps238
 go_wp2_with fail
 go_loop [3,11] (fun s i=>∃ k:Nat,k<=n/\i= .int .i64 k/\s= .int .i64 (sD f k).length) (fun _ i=>n-(intOf i).toNat)
 case atStart=>exact ⟨0,aL _,rfl,rfl⟩
 case round=>
  obtain ⟨k,hk,rfl,rfl⟩:=hrel;have hl:=Ak f k n hk
  by_cases hlt:k<n
  ·have hcell:=HC.o k hlt
   obtain ⟨a,cap,hv,h1,h2,h0,hs⟩:=(HS.o k hlt).parts;rw [hv] at hcell;have hl':=Ak f (k+1) n (by omega);have e:(sD f (k+1)).length=(sD f k).length+(f k).length:=by rw [sD,aA]
   have E:=zH e;have hl2:(sD f k).length+(f k).length<=1000000000:=by omega
   clear h0 hs hv e hl';go_wp2_with fail
   go_round
   case rel=>exact ⟨k+1,by omega,by go_num,by rw [E.o];go_num⟩
   case measure=>simp [intOf];omega
  ·obtain rfl:k=n:=by omega
   go_wp2_with fail
   refine (ZU _ (by omega) _).mono ?_;rintro e w1 ⟨v1,rfl,ho1,hb1⟩;have O1:=zH ho1;clear ho1;go_wp2_with fail
   go_loopw [6,27] (fun v i wr=>∃ j:Nat,j<=k/\i= .int .i64 j/\gy gG w.heap.size wr v (sD f j)/\Below w.heap.size w wr) (fun _ i _=>k-(intOf i).toNat)
   case atStart=>exact ⟨0,aL _,rfl,O1.o,hb1⟩
   case round=>
    obtain ⟨j,hj,rfl,ho,hb⟩:=hrel;have hl3:=Ak f j k hj
    by_cases hlt:j<k
    ·have hcell0:=HC.o j hlt
     have hblt:b<w.heap.size:=aG w ⟨b,j,none⟩ hcell0;obtain ⟨a,cap,hv,h1,h2,h0,hs⟩:=(HS.o j hlt).parts;rw [hv] at hcell0;have hcell:=(hb.cell (p:=⟨b,j,none⟩) hblt).trans hcell0;have hl':=Ak f (j+1) k (by omega);have E:Hid (sD f (j+1)=sD f j++f j):=zH rfl;have hl2:(sD f j).length+(f j).length<=1000000000:=by rw [E.o,aA] at hl';omega
     have hsz:=hb.size;have S1:=zH (fM.below hs hb);have O2:=zH ho;have B2:=zH hb;clear h0 hs hv hl' ho hb hcell0;go_wp2_with (at_builtin;refine gT gG rfl (.tmp 31) (.tmp 32) rfl w.heap.size rfl O2.o rfl S1.o (fun _ _ h=>h) (by omega) (by omega) ?_)
     intro v2 w2 ho2 hg2 _;have hb2:Below w.heap.size w w2:=B2.o.grown hg2 (by omega) (fun k hk=>(O2.o.lt k hk).1);have O3:=zH ho2;clear ho2 hg2 hcell;go_wp2_with fail
     go_roundw
     case rel=>exact ⟨j+1,by omega,by go_num,by rw [E.o];exact O3.o,hb2⟩
     case measure=>simp [intOf];omega
    ·obtain rfl:j=k:=by omega
     have O2:=zH ho;clear ho;go_wp2_with fail
     go_ret
     exact ⟨_,rfl,O2.o,hb⟩
theorem Fp(b c:Nat){u v:Value}{xs ys:List fK}(w:World)(h0:w.cell? ⟨b,0,none⟩=some u)(h1:w.cell? ⟨b,1,none⟩=some v)(hu:fM gG w u xs)(hv:fM gG w v ys)(hlen:xs.length+ys.length<=1000000000):
  Calls prog 238 #[.slice (some ⟨b,0,none⟩) 2 c] w (vQ gG w (xs++ys)):=by
 have h:=SH b 2 c (fun j=>if j=0 then u else v) (fun j=>if j=0 then xs else ys) w (by omega)
  (fun j hj=>by match j,hj with|0,_=>exact h0|1,_=>exact h1) (fun j hj=>by match j,hj with|0,_=>exact hu|1,_=>exact hv) (by simp [sD];omega)
 simpa [sD] using h
end Go.Proofs.YtfgcodcablpdcaaGreat