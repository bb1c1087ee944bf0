import Derived.Test.YtfgcodcablpdcaaGreatTxUses
set_option linter.unusedVariables false
namespace Go.Proofs.YtfgcodcablpdcaaGreat.Plain
open Go.Proofs.Tryz
def r9(v:Ints)(n s:Int):Prop:=1<=s/\s<=iF v n
def zk(s:Int):Int:=Go.IntKind.i64.wrap (s-1)
theorem RY{s:Int}(h:0<s)(h2:s<=9223372036854775807):zk s=s-1:=by
 unfold zk;simp [Go.IntKind.wrap,Go.IntKind.bits,Go.IntKind.signed]
 omega
def xE(v:Ints)(t:fI)(n s:Int):Prop:=
 (n=t.node/\s=zk t.seq/\iF v t.node<s)\/(∃ k:Nat,n=(k:Int)/\s=says t.deps k/\says v k<s)
def uY(v:Ints)(t:fI):Prop:=zk t.seq<=iF v t.node/\Within t.deps v
def Xc(n s:Int)(t:fI):Prop:=∀ u,¬ r9 u n s ->¬ gY u t=true
def Sb(v:Ints)(t:fI):Prop:=∀ u,Within v u ->¬ gY u t=true
def Eh(t:fI):Prop:=t.seq<=9223372036854775807
theorem xE.lacks{v:Ints}{t:fI}{n s:Int}(h:xE v t n s):¬ r9 v n s:=by
 rintro ⟨_,h2⟩
 rcases h with ⟨rfl,rfl,h3⟩|⟨k,rfl,rfl,h3⟩
 ·omega
 ·rw [lg] at h2;omega
theorem xE.blocks{v:Ints}{t:fI}{n s:Int}(ht:Eh t)(h:xE v t n s):Xc n s t:=by
 intro u hu hr;obtain ⟨r1,r2,r3⟩:=jP.1 hr
 apply hu
 rcases h with ⟨rfl,rfl,h3⟩|⟨k,rfl,rfl,h3⟩
 ·have:=Zg v t.node
  rw [RY r1 ht] at h3 ⊢;exact ⟨by omega,by omega⟩
 ·have:=lC v k
  refine ⟨by omega,?_⟩;rw [lg];exact r3 k
theorem Jt{u v:Ints}(h:Within u v)(n:Int):iF u n<=iF v n:=by
 unfold iF
 split
 ·exact h _
 ·exact dD _
theorem uY.up{u v:Ints}{t:fI}(h:uY u t)(hu:Within u v):uY v t:=
 ⟨dG h.1 (Jt hu _),fun i=>dG (h.2 i) (hu i)⟩
theorem uY.dead{v:Ints}{t:fI}(ht:Eh t)(h:uY v t)(hr:¬ gY v t=true):Sb v t:=by
 intro u hu r;obtain ⟨r1,r2,r3⟩:=jP.1 r
 apply hr
 have h1:=h.1;rw [RY r1 ht] at h1;have:=Jt hu t.node;exact jP.2 ⟨r1,by omega,h.2⟩
theorem Sb.up{u v:Ints}{t:fI}(h:Sb u t)(hu:Within u v):Sb v t:=fun w hw=>h w fun i=>dG (hu i) (hw i)
theorem Oh{v:Ints}{t:fI}(h:gY v t=true):Within v (gZ v t):=fun i=>zm h i
theorem Zt{v:Ints}{t:fI}(h:gY v t=true){n s:Int}(h0:¬ r9 v n s)(h1:r9 (gZ v t) n s):n=t.node/\s=t.seq:=by
 obtain ⟨a,b⟩:=h1
 by_cases c:0<=n
 ·rw [lT c,jQ] at b
  by_cases d:oC t=true/\n.toNat=t.node.toNat
  ·rw [if_pos d] at b
   have h3:=(jl.1 d.1).1.1;have h4:n=t.node:=by omega
   subst h4;refine ⟨rfl,?_⟩;have h5:=(jP.1 h).2.1;have h6:¬ s<=iF v t.node:=fun e=>h0 ⟨a,e⟩
   omega
  ·rw [if_neg d] at b
   exact absurd ⟨a,by rw [lT c];exact b⟩ h0
 ·rw [Zu c] at b;omega
theorem oHas_up{u v:Ints}(h:Within u v){n s:Int}(h1:r9 u n s):r9 v n s:=⟨h1.1,dG h1.2 (Jt h n)⟩
def jr(l:List fI)(j:Nat):fI:=l.getD j default
theorem kX{l:List fI}{j:Nat}(h:j<l.length):jr l j=l[j]:=by unfold jr;simp [List.getD,h]
def gone(g:List Bool)(j:Nat):Bool:=g.getD j false
structure jH(l:List fI)(v:Ints)(g:List Bool)(H:List Nat)(B:Int ->Int ->List Nat)(Q:List Nat):Prop where
 len:g.length=l.length
 hH:∀ j∈H,j<l.length/\gone g j=false/\uY v (jr l j)
 nd:(H++Q).Nodup
 hB:∀ n s,¬ r9 v n s ->∀ j∈B n s,j<l.length/\gone g j=false/\Xc n s (jr l j)/\j∉H/\j∉Q
 ndB:∀ n s,¬ r9 v n s ->(B n s).Nodup
 apart:∀ n s m r,¬ r9 v n s ->¬ r9 v m r ->∀ j,j∈B n s ->j∈B m r ->n=m/\s=r
 hQ:∀ j∈Q,j<l.length/\gone g j=false
 all:∀ j,j<l.length ->gone g j=false ->j∈H\/j∈Q\/(∃ n s,¬ r9 v n s/\j∈B n s)\/Sb v (jr l j)
theorem jH.start(l:List fI)(v:Ints):jH l v (List.replicate l.length false) [] (fun _ _=>[]) (List.range l.length) where
 len:=by simp
 hH:=by simp
 nd:=by simp [List.nodup_range]
 hB:=by simp
 ndB:=by simp
 apart:=by simp
 hQ:=fun j hj=>⟨by simpa using hj,by have:=List.mem_range.1 hj;unfold gone;simp [List.getD,this]⟩
 all:=fun j hj _=>dP (Or.inl (by simpa using hj))
theorem jH.perm{l:List fI}{v:Ints}{g:List Bool}{H H':List Nat}{B:Int ->Int ->List Nat}{Q:List Nat}(h:jH l v g H B Q)(hp:H'.Perm H):jH l v g H' B Q where
 len:=h.len
 hH:=fun j hj=>h.hH j (hp.mem_iff.1 hj)
 nd:=(hp.append_right Q).nodup_iff.2 h.nd
 hB:=fun n s hn j hj=>by
  obtain ⟨a,b,c,d,e⟩:=h.hB n s hn j hj;exact ⟨a,b,c,fun x=>d (hp.mem_iff.1 x),e⟩
 ndB:=h.ndB
 apart:=h.apart
 hQ:=h.hQ
 all:=fun j hj hg=>by
  rcases h.all j hj hg with a|a
  ·exact Or.inl (hp.mem_iff.2 a)
  ·exact dP a
def Oc(B:Int ->Int ->List Nat)(n s:Int)(p:Nat):Int ->Int ->List Nat:=fun m r=>if m=n/\r=s then B m r++[p] else B m r
theorem xB(B:Int ->Int ->List Nat)(n s:Int)(p:Nat):Oc B n s p n s=B n s++[p]:=by unfold Oc;rw [if_pos ⟨rfl,rfl⟩]
theorem uw{B:Int ->Int ->List Nat}{n s:Int}{p:Nat}{m r:Int}(h:¬ (m=n/\r=s)):Oc B n s p m r=B m r:=by unfold Oc;rw [if_neg h]
theorem jH.lay{l:List fI}{v:Ints}{g:List Bool}{H:List Nat}{B:Int ->Int ->List Nat}{p:Nat}{Q:List Nat}(h:jH l v g H B (p::Q)){n s:Int}(ht:Eh (jr l p))(hl:xE v (jr l p) n s):
  jH l v g H (Oc B n s p) Q:=by
 have hp:=h.hQ p (by simp);have hnd:=dw.1 h.nd;have hpQ:=(dZ.1 hnd.2.1).1;have hpH:p∉H:=fun x=>hnd.2.2 p x p (by simp) rfl
 constructor
 ·exact h.len
 ·exact h.hH
 ·refine dw.2 ⟨hnd.1,(dZ.1 hnd.2.1).2,fun a ha b hb=>hnd.2.2 a ha b (by simp [hb])⟩
 ·intro m r hm j hj
  by_cases c:m=n/\r=s
  ·obtain ⟨rfl,rfl⟩:=c
   rw [xB] at hj
   rcases bA.1 hj with e|e
   ·obtain ⟨a,b,c,d,e⟩:=h.hB m r hm j e
    exact ⟨a,b,c,d,fun x=>e (by simp [x])⟩
   ·have:=bE.1 e
    subst this;exact ⟨hp.1,hp.2,hl.blocks ht,hpH,hpQ⟩
  ·rw [uw c] at hj
   obtain ⟨a,b,c,d,e⟩:=h.hB m r hm j hj;exact ⟨a,b,c,d,fun x=>e (by simp [x])⟩
 ·intro m r hm
  by_cases c:m=n/\r=s
  ·obtain ⟨rfl,rfl⟩:=c
   rw [xB];refine dw.2 ⟨h.ndB m r hm,by simp,fun a ha b hb=> ?_⟩;have:=bE.1 hb;subst this;rintro rfl;exact (h.hB m r hm a ha).2.2.2.2 (by simp)
  ·rw [uw c];exact h.ndB m r hm
 ·have key:∀ m r,¬ r9 v m r ->p∉B m r:=fun m r hm x=>(h.hB m r hm p x).2.2.2.2 (by simp)
  intro m r m' r' hm hm' j hj hj'
  by_cases c:m=n/\r=s
  ·obtain ⟨rfl,rfl⟩:=c
   by_cases c':m'=m/\r'=r
   ·exact ⟨c'.1.symm,c'.2.symm⟩
   ·rw [xB] at hj
    rw [uw c'] at hj'
    rcases bA.1 hj with e|e
    ·exact h.apart m r m' r' hm hm' j e hj'
    ·have:=bE.1 e
     subst this;exact absurd hj' (key _ _ hm')
  ·rw [uw c] at hj
   by_cases c':m'=n/\r'=s
   ·obtain ⟨rfl,rfl⟩:=c'
    rw [xB] at hj'
    rcases bA.1 hj' with e|e
    ·exact h.apart m r m' r' hm hm' j hj e
    ·have:=bE.1 e
     subst this;exact absurd hj (key _ _ hm)
   ·rw [uw c'] at hj'
    exact h.apart m r m' r' hm hm' j hj hj'
 ·exact fun j hj=>h.hQ j (by simp [hj])
 ·intro j hj hg
  rcases h.all j hj hg with a|a|⟨m,r,hm,a⟩|a
  ·exact Or.inl a
  ·rcases bL.1 a with e|e
   ·subst e
    exact dP (dP (Or.inl ⟨n,s,hl.lacks,by rw [xB];simp⟩))
   ·exact dP (Or.inl e)
  ·refine dP (dP (Or.inl ⟨m,r,hm,?_⟩))
   by_cases c:m=n/\r=s
   ·obtain ⟨rfl,rfl⟩:=c;rw [xB];simp [a]
   ·rw [uw c];exact a
  ·exact dP (dP (dP a))
theorem jH.push{l:List fI}{v:Ints}{g:List Bool}{H:List Nat}{B:Int ->Int ->List Nat}{p:Nat}{Q:List Nat}(h:jH l v g H B (p::Q))(hc:uY v (jr l p)):
  jH l v g (p::H) B Q:=by
 have hp:=h.hQ p (by simp)
 constructor
 ·exact h.len
 ·intro j hj
  rcases bL.1 hj with e|e
  ·subst e;exact ⟨hp.1,hp.2,hc⟩
  ·exact h.hH j e
 ·exact (List.perm_middle (a:=p) (l₁:=H) (l₂:=Q)).nodup_iff.1 h.nd
 ·intro m r hm j hj
  obtain ⟨a,b,c,d,e⟩:=h.hB m r hm j hj;refine ⟨a,b,c,fun x=> ?_,fun x=>e (by simp [x])⟩
  rcases bL.1 x with f|f
  ·subst f;exact e (by simp)
  ·exact d f
 ·exact h.ndB
 ·exact h.apart
 ·exact fun j hj=>h.hQ j (by simp [hj])
 ·intro j hj hg
  rcases h.all j hj hg with a|a|a
  ·exact Or.inl (by simp [a])
  ·rcases bL.1 a with e|e
   ·exact Or.inl (by simp [e])
   ·exact dP (Or.inl e)
  ·exact dP (dP a)
theorem jH.drop{l:List fI}{v:Ints}{g:List Bool}{H:List Nat}{B:Int ->Int ->List Nat}{p:Nat}{Q:List Nat}(h:jH l v g (p::H) B Q)(ht:Eh (jr l p))(hr:¬ gY v (jr l p)=true):
  jH l v g H B Q:=by
 have hp:=h.hH p (by simp)
 constructor
 ·exact h.len
 ·exact fun j hj=>h.hH j (by simp [hj])
 ·exact (dZ.1 h.nd).2
 ·intro m r hm j hj
  obtain ⟨a,b,c,d,e⟩:=h.hB m r hm j hj;exact ⟨a,b,c,fun x=>d (by simp [x]),e⟩
 ·exact h.ndB
 ·exact h.apart
 ·exact h.hQ
 ·intro j hj hg
  rcases h.all j hj hg with a|a
  ·rcases bL.1 a with e|e
   ·subst e;exact dP (dP (dP (hp.2.2.dead ht hr)))
   ·exact Or.inl e
  ·exact dP a
theorem gone_set{g:List Bool}{p:Nat}(hp:p<g.length)(j:Nat):gone (g.set p true) j=if j=p then true else gone g j:=by
 unfold gone;simp only [List.getD,dx]
 by_cases c:p=j
 ·subst c;simp [hp]
 ·rw [if_neg c,if_neg (fun e:j=p=>c e.symm)]
theorem jH.take{l:List fI}{v:Ints}{g:List Bool}{H:List Nat}{B:Int ->Int ->List Nat}{p:Nat}(h:jH l v g (p::H) B [])(hr:gY v (jr l p)=true)
  {Q:List Nat} (hQ:(r9 (gZ v (jr l p)) (jr l p).node (jr l p).seq/\Q=B (jr l p).node (jr l p).seq)\/(¬ r9 (gZ v (jr l p)) (jr l p).node (jr l p).seq/\Q=[])):
  jH l (gZ v (jr l p)) (g.set p true) H B Q:=by
 have hp:=h.hH p (by simp);have hw:=Oh hr;have hnd:=dZ.1 (dw.1 h.nd).1;have hpg:p<g.length:=by rw [h.len];exact hp.1
 have hg:=gone_set hpg;have hne:∀ n s,¬ r9 v n s ->p∉B n s:=fun n s hn x=>(h.hB n s hn p x).2.2.2.1 (by simp)
 have h0:¬ r9 v (jr l p).node (jr l p).seq:=fun e=>by
  have:=(jP.1 hr).2.1;have:=e.2;omega
 have Me:∀ n s,¬ r9 (gZ v (jr l p)) n s ->¬ r9 v n s:=fun n s e x=>e (oHas_up hw x)
 have hQB:∀ j∈Q,j∈B (jr l p).node (jr l p).seq/\r9 (gZ v (jr l p)) (jr l p).node (jr l p).seq:=by
  intro j hj
  rcases hQ with ⟨a,rfl⟩|⟨a,rfl⟩
  ·exact ⟨hj,a⟩
  ·cases hj
 constructor
 ·simp [h.len]
 ·intro j hj
  obtain ⟨a,b,c⟩:=h.hH j (by simp [hj]);refine ⟨a,?_,c.up hw⟩;rw [hg,if_neg (fun e=>hnd.1 (by rw [<-e];exact hj))];exact b
 ·refine dw.2 ⟨hnd.2,?_,fun a ha b hb e=> ?_⟩
  ·rcases hQ with ⟨a,rfl⟩|⟨a,rfl⟩
   ·exact h.ndB _ _ h0
   ·exact List.nodup_nil
  ·subst e
   exact (h.hB _ _ h0 a (hQB a hb).1).2.2.2.1 (by simp [ha])
 ·intro m r hm j hj
  obtain ⟨a,b,c,d,e⟩:=h.hB m r (Me m r hm) j hj;refine ⟨a,?_,c,fun x=>d (by simp [x]),fun x=> ?_⟩
  ·rw [hg,if_neg (fun e=>hne m r (Me m r hm) (by rw [<-e];exact hj))]
   exact b
  ·obtain ⟨y,z⟩:=hQB j x
   obtain ⟨rfl,rfl⟩:=h.apart _ _ m r h0 (Me m r hm) j y hj;exact hm z
 ·exact fun m r hm=>h.ndB m r (Me m r hm)
 ·exact fun n s m r hn hm=>h.apart n s m r (Me n s hn) (Me m r hm)
 ·intro j hj
  obtain ⟨a,b,c,d,e⟩:=h.hB _ _ h0 j (hQB j hj).1;refine ⟨a,?_⟩;rw [hg,if_neg (fun e=>d (by simp [e]))];exact b
 ·intro j hj hgj
  rw [hg] at hgj
  by_cases c:j=p
  ·rw [if_pos c] at hgj;cases hgj
  ·rw [if_neg c] at hgj
   rcases h.all j hj hgj with a|a|⟨m,r,hm,a⟩|a
   ·rcases bL.1 a with e|e
    ·exact absurd e c
    ·exact Or.inl e
   ·cases a
   ·by_cases d:r9 (gZ v (jr l p)) m r
    ·obtain ⟨rfl,rfl⟩:=Zt hr hm d
     rcases hQ with ⟨x,rfl⟩|⟨x,rfl⟩
     ·exact dP (Or.inl a)
     ·exact absurd d x
    ·exact dP (dP (Or.inl ⟨m,r,d,a⟩))
   ·exact dP (dP (dP (a.up hw)))
theorem jH.waits{l:List fI}{v:Ints}{g:List Bool}{H:List Nat}{B:Int ->Int ->List Nat}(h:jH l v g H B []){j:Nat}(hj:j<l.length)(hg:gone g j=false)(hH:j∉H):¬ gY v (jr l j)=true:=by
 rcases h.all j hj hg with a|a|⟨m,r,hm,a⟩|a
 ·exact absurd a hH
 ·cases a
 ·exact (h.hB m r hm j a).2.2.1 v hm
 ·exact a v fun i=>dD _
theorem Oj{g:List Bool}{j:Nat}(h:j<g.length):gone g j=g[j]:=by unfold gone;simp [List.getD,h]
theorem jH.first{l:List fI}{v:Ints}{g:List Bool}{H:List Nat}{B:Int ->Int ->List Nat}{p:Nat}(h:jH l v g (p::H) B [])(hm:∀ j∈H,p<=j)(hr:gY v (jr l p)=true):
  jT v (nC g l)=some (jr l p,nC (g.set p true) l):=by
 have hp:=h.hH p (by simp);have hpg:p<g.length:=by rw [h.len];exact hp.1
 rw [kX hp.1];refine Fb hpg hp.1 ?_ ?_ fun j h1 h2 hlt=> ?_
 ·rw [<-Oj hpg];exact hp.2.1
 ·rw [<-kX hp.1];exact hr
 ·rw [<-Oj h1,<-kX h2]
  by_cases c:gone g j=true
  ·exact Or.inl c
  ·refine dP (h.waits h2 (by simpa using c) fun x=> ?_)
   rcases bL.1 x with e|e
   ·omega
   ·have:=hm j e;omega
theorem jH.done{l:List fI}{v:Ints}{g:List Bool}{B:Int ->Int ->List Nat}(h:jH l v g [] B []):jT v (nC g l)=none:=by
 refine Ju fun j h1 h2=> ?_
 rw [<-Oj h1,<-kX h2]
 by_cases c:gone g j=true
 ·exact Or.inl c
 ·exact dP (h.waits h2 (by simpa using c) (by simp))
theorem Vv{v:Ints}{l:List fI}{t:fI}{r:List fI}(h:jT v l=some (t,r)):r.length+1=l.length:=by
 have:=(pO h).2.length_eq;simp at this
 omega
end Go.Proofs.YtfgcodcablpdcaaGreat.Plain
set_option maxRecDepth 100000
set_option maxHeartbeats 64000000
namespace Go.Proofs.YtfgcodcablpdcaaGreat
open Go.Proofs.Tryz
open Go.RowKit Plain
theorem Calls.tell{P:Program}{f:FuncId}{args:Array Value}{w:World}{v:Value}(h:Calls P f args w fun e w'=>e= .returned v/\w=w'):Calls P f args w fun e w'=>e= .returned v/\Below w.heap.size w w':=
 h.mono fun _ _ ⟨he,hw⟩=>⟨he,by rw [<-hw];exact aj _ _⟩
theorem Vx{v:Ints}{t:fI}(h:¬ 1<=t.seq):gY v t=false:=bH.2 fun e=>h (jP.1 e).1
theorem Zv{v:Ints}{t:fI}(h:¬ iF v t.node=t.seq-1):gY v t=false:=bH.2 fun e=>h (jP.1 e).2.1
theorem Zw{v:Ints}{t:fI}(h1:1<=t.seq)(h2:iF v t.node=t.seq-1):gY v t=within t.deps v:=by
 unfold gY;rw [aI (show 0<t.seq from h1),aI h2,aS,aS]
theorem seq_wrap{s:Int}(h1:1<=s)(h2:s<=9223372036854775807):IntKind.i64.wrap (s-1)=s-1:=by
 simp [IntKind.wrap,IntKind.bits,IntKind.signed]
 omega
theorem Fa{vv tv:Value}{xs:Ints}{t:fI}{w:World}(hv:gQ w vv xs)(ht:kN w tv t)(hl:xs.length<=1000000)(hd:t.deps.length<=1000000)(hs:t.seq<=9223372036854775807):
  Calls prog 162 #[vv,tv] w (fO w (gY xs t)):=by
 obtain ⟨da,dn,dc,ea,en,ec,rfl,k1,k2⟩:=ht.parts;obtain ⟨av,cv,rfl,-,-,-,hv'⟩:=hv.parts;have KB:=kZ k1 k2;have hb:=zB w (.cells #[.int .i64 t.node,.int .i64 t.seq,.slice da dn dc,.slice ea en ec] 82);have HV:=hv'.below hb;have HB:=zH hb;clear hv ht hv' k1 k2 hb;go_enter func162,ntmps162
 go_upto_region 1 with fail
 generalize (w.alloc _)=wb at*;have KE:Hid (∀ u,Below wb.heap.size wb u ->Below wb.heap.size wb u/\u.cell? ⟨w.heap.size,0,none⟩=some (.int .i64 t.node)/\u.cell? ⟨w.heap.size,1,none⟩=some (.int .i64 t.seq)/\u.cell? ⟨w.heap.size,2,none⟩=some (.slice da dn dc)):=zH (fun u h=>⟨h,(KB.below h).c.1,(KB.below h).c.2.1,(KB.below h).c.2.2.1⟩);have KA:Hid (∀ u,Below wb.heap.size wb u ->Calls prog 131 #[.slice av xs.length cv,.int .i64 t.node] u fun e w'=>e= .returned (.int .i64 (iF xs t.node))/\Below u.heap.size u w'):=zH (fun u h=>Calls.tell (jJ (HV.below h) t.node));have KW:Hid (∀ u,Below wb.heap.size wb u ->Calls prog 60 #[.slice da dn dc,.slice av xs.length cv] u fun e w'=>e= .returned (.bool (within t.deps xs))/\Below u.heap.size u w'):=zH (fun u h=>Calls.tell (Ay (gW ((KB.below h).d)) (HV.below h) hd));have OA:=zH (Vx (v:=xs) (t:=t));have OB:=zH (Zv (v:=xs) (t:=t));have OC:=zH (Zw (v:=xs) (t:=t));clear KB HV hd hl;generalize xs.length=nv at*;generalize gY xs t=r at*;generalize within t.deps xs=wi at*;generalize iF xs t.node=sn at*
 by_cases h1:1<=t.seq
 ·have e1:=seq_wrap h1 hs
  have h3:decide (1<=t.seq)=true:=aI h1;have h4:decide (0<t.seq)=true:=aI (show 0<t.seq by omega)
  by_cases h2:sn=t.seq-1
  ·have RR:=zH (OC.o h1 h2)
   have g1:(t.seq-1==sn)=true:=by simp [h2]
   have g2:(sn==t.seq-1)=true:=by simp [h2]
   clear OA OB OC h2;refine wp_region_held_drew (S:=fun u'=>Below wb.heap.size wb u'/\u'.cell? ⟨w.heap.size,0,none⟩=some (.int .i64 t.node)/\u'.cell? ⟨w.heap.size,1,none⟩=some (.int .i64 t.seq)/\u'.cell? ⟨w.heap.size,2,none⟩=some (.slice da dn dc)) (by kernel_rfl) ?_ (fun hHeld=> ?_)
   ·(exact KE.o _ (aj _ _).drew)
   simp only [zS,aJ,Nat.reduceAdd]
   refine fJ 0 hHeld ?_;refine fJ 1 hHeld ?_;refine fJ 2 hHeld ?_;refine fJ 3 hHeld ?_;refine fJ 4 hHeld ?_;refine fJ 5 hHeld ?_;refine fJ 6 hHeld ?_;refine fJ 7 hHeld ?_;refine fJ 8 hHeld ?_;refine fJ 9 hHeld ?_;refine rd 10 fun K hK=> ?_
   go_simp
   refine (KA.o _ hHeld.1).mono ?_;rintro e s1 ⟨rfl,hb⟩;refine hK.out _ _ (KE.o _ (iM hHeld hb)) (fun hHeld=> ?_);clear hK K hb;refine fJ 11 hHeld ?_;refine fJ 12 hHeld ?_;refine fJ 13 hHeld ?_;refine fJ 14 hHeld ?_;refine fJ 15 hHeld ?_;refine fJ 16 hHeld ?_;refine rd 17 fun K hK=> ?_
   go_simp
   refine (KW.o _ hHeld.1).mono ?_;rintro e s2 ⟨rfl,hb⟩;refine hK.out _ _ (KE.o _ (iM hHeld hb)) (fun hHeld=> ?_);clear hK K hb;refine fJ 18 hHeld ?_;refine fJ 19 hHeld ?_;refine wpAnyH_done (by kernel_rfl) ?_ _;have GZ:Hid (Below wb.heap.size wb _):=zH hHeld.1;clear hHeld;go_wp2_with fail
   go_ret
   exact ⟨by rw [RR.o];rfl,HB.o.trans (GZ.o.mono HB.o.size)⟩
  ·have RR:=zH (OB.o h2)
   have g1:(t.seq-1==sn)=false:=by simp;exact fun e=>h2 e.symm
   have g2:(sn==t.seq-1)=false:=by simp;exact h2
   clear OA OB OC h2;refine wp_region_held_drew (S:=fun u'=>Below wb.heap.size wb u'/\u'.cell? ⟨w.heap.size,0,none⟩=some (.int .i64 t.node)/\u'.cell? ⟨w.heap.size,1,none⟩=some (.int .i64 t.seq)/\u'.cell? ⟨w.heap.size,2,none⟩=some (.slice da dn dc)) (by kernel_rfl) ?_ (fun hHeld=> ?_)
   ·(exact KE.o _ (aj _ _).drew)
   simp only [zS,aJ,Nat.reduceAdd]
   refine fJ 0 hHeld ?_;refine fJ 1 hHeld ?_;refine fJ 2 hHeld ?_;refine fJ 3 hHeld ?_;refine fJ 4 hHeld ?_;refine fJ 5 hHeld ?_;refine fJ 6 hHeld ?_;refine fJ 7 hHeld ?_;refine fJ 8 hHeld ?_;refine fJ 9 hHeld ?_;refine rd 10 fun K hK=> ?_
   go_simp
   refine (KA.o _ hHeld.1).mono ?_;rintro e s1 ⟨rfl,hb⟩;refine hK.out _ _ (KE.o _ (iM hHeld hb)) (fun hHeld=> ?_);clear hK K hb;refine fJ 11 hHeld ?_;refine fJ 12 hHeld ?_;refine fJ 13 hHeld ?_;refine gq 14 hHeld ?_;refine gq 15 hHeld ?_;refine gq 16 hHeld ?_;refine gq 17 hHeld ?_;refine fJ 18 hHeld ?_;refine fJ 19 hHeld ?_;refine wpAnyH_done (by kernel_rfl) ?_ _;have GZ:Hid (Below wb.heap.size wb _):=zH hHeld.1;clear hHeld;go_wp2_with fail
   go_ret
   exact ⟨by rw [RR.o];rfl,HB.o.trans (GZ.o.mono HB.o.size)⟩
 ·have RR:=zH (OA.o h1)
  have h3:decide (1<=t.seq)=false:=aF h1;have h4:decide (0<t.seq)=false:=aF (show ¬ 0<t.seq by omega);clear OA OB OC;refine wp_region_held_drew (S:=fun u'=>Below wb.heap.size wb u'/\u'.cell? ⟨w.heap.size,0,none⟩=some (.int .i64 t.node)/\u'.cell? ⟨w.heap.size,1,none⟩=some (.int .i64 t.seq)/\u'.cell? ⟨w.heap.size,2,none⟩=some (.slice da dn dc)) (by kernel_rfl) ?_ (fun hHeld=> ?_)
  ·(exact KE.o _ (aj _ _).drew)
  simp only [zS,aJ,Nat.reduceAdd]
  refine fJ 0 hHeld ?_;refine fJ 1 hHeld ?_;refine fJ 2 hHeld ?_;refine fJ 3 hHeld ?_;refine gq 4 hHeld ?_;refine gq 5 hHeld ?_;refine gq 6 hHeld ?_;refine gq 7 hHeld ?_;refine gq 8 hHeld ?_;refine gq 9 hHeld ?_;refine gq 10 hHeld ?_;refine gq 11 hHeld ?_;refine fJ 12 hHeld ?_;refine fJ 13 hHeld ?_;refine gq 14 hHeld ?_;refine gq 15 hHeld ?_;refine gq 16 hHeld ?_;refine gq 17 hHeld ?_;refine fJ 18 hHeld ?_;refine fJ 19 hHeld ?_;refine wpAnyH_done (by kernel_rfl) ?_ _;have GZ:Hid (Below wb.heap.size wb _):=zH hHeld.1;clear hHeld;go_wp2_with fail
  go_ret
  exact ⟨by rw [RR.o];rfl,HB.o.trans (GZ.o.mono HB.o.size)⟩
theorem xw{vv tv:Value}{xs:Ints}{t:fI}{w:World}(hv:gQ w vv xs)(ht:kN w tv t)(hl:xs.length<=1000000):
  Calls prog 88 #[vv,tv] w (ED w (gZ xs t)):=by
 obtain ⟨da,dn,dc,ea,en,ec,rfl,k1,k2⟩:=ht.parts;obtain ⟨av,cv,rfl,-,-,-,hv'⟩:=hv.parts;obtain ⟨⟨c0,c1,-,-⟩,-,-⟩:=kZ k1 k2;have hb:=zB w (.cells #[.int .i64 t.node,.int .i64 t.seq,.slice da dn dc,.slice ea en ec] 82);have HV:=zH (hv'.below hb);have HB:=zH hb;clear hv ht hv' k1 k2 hb;go_enter func88,ntmps88
 go_upto_region 1 with fail
 generalize (w.alloc _)=wb at*
 by_cases hq:oC t=true
 ·have RR:Hid (gZ xs t=CQ xs t.node.toNat t.seq):=zH (by unfold gZ;rw [if_pos hq])
  have HL:=zH hl;obtain ⟨⟨q1,q2⟩,q3,q4⟩:=jl.1 hq;have KW:=zH (Vy HV.o hl (k0:=t.node.toNat) (by omega) q3 q4);rw [show ((t.node.toNat:Nat):Int)=t.node by omega] at KW;generalize CQ xs t.node.toNat t.seq=ys at*;generalize xs.length=nv at*;clear hq hl q1 q2 q3 q4;go_wp2_with fail
  refine KW.o.mono ?_;rintro e w1 ⟨u,rfl,ho,hb1⟩;obtain ⟨ua,uc,rfl,-,-,ho,-⟩:=ho.parts;have HO:=zH ho;have H1:=zH hb1;clear ho hb1 KW c0 c1;go_wp2_with fail
  go_ret
  have Z:=HO.o.mono HB.o.size;exact ⟨_,rfl,by rw [RR.o];exact Z,HB.o.trans (H1.o.mono HB.o.size)⟩
 ·have RR:Hid (gZ xs t=trim xs):=zH (by unfold gZ;rw [if_neg hq])
  have hq':t.node<0\/8<=t.node\/t.seq<0\/1073741824<t.seq:=by
   refine Decidable.byContradiction fun h=>hq (jl.2 ?_)
   omega
  have KW:=zH (Sc HV.o t.node t.seq hq');have KT:=zH (fun u (h:Below wb.heap.size wb u)=>rP (HV.o.below h) hl);generalize trim xs=ys at*;generalize xs.length=nv at*;clear hq hq' hl;go_wp2_with fail
  refine KW.o.mono ?_;rintro e w1 ⟨rfl,hb1⟩;have H1:=zH hb1;have KT2:=zH (KT.o _ H1.o);clear hb1 KW KT c0 c1;go_wp2_with fail
  refine KT2.o.mono ?_;rintro e w2 ⟨u,rfl,ho,hb2⟩;obtain ⟨ua,uc,rfl,-,-,ho,-⟩:=ho.parts;have HO:=zH ho;have H2:=zH hb2;clear ho hb2 KT2;go_wp2_with fail
  go_ret
  have Z:=HO.o.mono (ak HB.o.size H1.o.size);exact ⟨_,rfl,by rw [RR.o];exact Z,HB.o.trans ((H1.o.trans (H2.o.mono H1.o.size)).mono HB.o.size)⟩
end Go.Proofs.YtfgcodcablpdcaaGreat
set_option maxRecDepth 100000
set_option maxHeartbeats 64000000
namespace Go.Proofs.YtfgcodcablpdcaaGreat
open Go.Proofs.Tryz
open Go.RowKit Plain
def Zx(w:World)(v:Ints)(t:fI)(e:Ending)(w':World):Prop:=
 ∃ n s b,e= .returned (.tuple #[.agg #[.int .i64 n,.int .i64 s,.int .i64 0],.bool b])/\(b=true ->xE v t n s/\jf ⟨n,s,0⟩)/\(b=false ->uY v t)/\Below w.heap.size w w'
theorem oPrev_wf(s:Int):(Lit.int .i64 (zk s)).wf=true:=by
 unfold zk;simp [Lit.wf,IntKind.min,IntKind.max,IntKind.wrap,IntKind.signed,IntKind.bits]
 omega
theorem wf0:(Lit.int .i64 0).wf=true:=by decide
theorem says_wf{d:Ints}(h:∀ n∈d,mM n)(k:Nat):(Lit.int .i64 (says d k)).wf=true:=by
 unfold says
 by_cases c:k<d.length
 ·have:=i64_in (h d[k] (aU c))
  have e:d.getD k 0=d[k]:=by simp [List.getD,c]
  rw [e];simp only [Lit.wf,IntKind.min,IntKind.max,IntKind.signed,IntKind.bits,decide_eq_true_iff,aD]
  simp
  omega
 ·rw [wC d k (by omega)]
  decide
theorem jG{w:World}{g:Nat}{cs:Array Value}{t:TypeId}(h:w.heap[g]? =some (.cells cs t (0,0)))(i:Nat):w.frozen? ⟨g,i,none⟩=false:=by
 unfold World.frozen?;rw [h];simp
theorem st3q{w:World}{g:Nat}{z0 z1 z2:Value}{t:TypeId}(h:w.heap[g]? =some (.cells #[z0,z1,z2] t (0,0))):
  (∀ a,(w.setCell ⟨g,0,none⟩ a).cell? ⟨g,0,none⟩=some a)/\(∀ a b,((w.setCell ⟨g,0,none⟩ a).setCell ⟨g,1,none⟩ b).cell? ⟨g,1,none⟩=some b)/\(∀ a b c,(((w.setCell ⟨g,0,none⟩ a).setCell ⟨g,1,none⟩ b).setCell ⟨g,2,none⟩ c).cell? ⟨g,2,none⟩=some c):=by
 have h1:=fun a=>aB _ g 0 _ _ a h
 have h2:=fun a b=>aB _ g 1 _ _ b (h1 a)
 have h3:=fun a b c=>aB _ g 2 _ _ c (h2 a b)
 exact ⟨fun a=>by simp [World.cell?,h1 a],fun a b=>by simp [World.cell?,h2 a b],fun a b c=>by simp [World.cell?,h3 a b c]⟩
theorem Rz{vv tv:Value}{xs:Ints}{t:fI}{w:World}(hv:gQ w vv xs)(ht:kN w tv t)(hd:t.deps.length<=1000000)(hok:mM t.node/\∀ n∈t.deps,mM n):
  Calls prog 256 #[vv,tv] w (Zx w xs t):=by
 obtain ⟨da,dn,dc,ea,en,ec,rfl,k1,k2⟩:=ht.parts;obtain ⟨av,cv,rfl,-,-,-,hv'⟩:=hv.parts;have KB:=kZ k1 k2;have hb1:=(aj (w.alloc (.cells #[.int .i64 t.node,.int .i64 t.seq,.slice da dn dc,.slice ea en ec] 82)).heap.size (w.alloc (.cells #[.int .i64 t.node,.int .i64 t.seq,.slice da dn dc,.slice ea en ec] 82))).alloc (ah _) (.cells #[.int .i64 0,.int .i64 0,.int .i64 0] 77);have hb:=zB w (.cells #[.int .i64 t.node,.int .i64 t.seq,.slice da dn dc,.slice ea en ec] 82);have hB:=hb.trans (hb1.mono (by simp));have HV:=zH (hv'.below hB);have KX:=zH (KB.below hb1);have HB:=zH hB;have D0:Hid (((w.alloc (.cells #[.int .i64 t.node,.int .i64 t.seq,.slice da dn dc,.slice ea en ec] 82)).alloc (.cells #[.int .i64 0,.int .i64 0,.int .i64 0] 77)).heap[w.heap.size+1]? =some (.cells #[.int .i64 0,.int .i64 0,.int .i64 0] 77 (0,0))):=zH (by have:=aM (w.alloc (.cells #[.int .i64 t.node,.int .i64 t.seq,.slice da dn dc,.slice ea en ec] 82)) (.cells #[.int .i64 0,.int .i64 0,.int .i64 0] 77);simpa using this);have Tt:=zH k1.iY;have WP:=zH (oPrev_wf t.seq);have WS:=zH (fun k=>says_wf hok.2 k);have WN:=zH hok.1;have HDL:=zH hd;have e1:IntKind.i64.wrap (t.seq-1)=zk t.seq:=rfl;have HL:Hid (iF xs t.node<zk t.seq ->xE xs t t.node (zk t.seq)):=zH (fun h=> .inl ⟨rfl,rfl,h⟩);have HC:Hid (¬ iF xs t.node<zk t.seq ->(∀ j,j<t.deps.length ->says t.deps j<=says xs j) ->uY xs t):=zH (fun h1 h2=>⟨Int.not_lt.1 h1,vF h2⟩);have HK:Hid (∀ k:Nat,says xs k<says t.deps k ->xE xs t k (says t.deps k)):=zH (fun k h=> .inr ⟨k,rfl,rfl,h⟩);clear KB hb1 hb hB hv ht hv' k1 k2 hok hd;go_enter func256,ntmps256
 go_upto_region 1 with fail
 generalize ((w.alloc _).alloc _)=wb at*;have KA:=zH (fun n=>jJ (HV.o.drawn n) t.node);obtain ⟨c0,c1,c2,-⟩:=KX.o.c;have t0:wb.cell? ⟨w.heap.size+1,0,none⟩=some (.int .i64 0):=cell_of_row _ _ 0 _ _ _ D0.o;have t1:wb.cell? ⟨w.heap.size+1,1,none⟩=some (.int .i64 0):=cell_of_row _ _ 1 _ _ _ D0.o;have t2:wb.cell? ⟨w.heap.size+1,2,none⟩=some (.int .i64 0):=cell_of_row _ _ 2 _ _ _ D0.o;have f0:=jG D0.o 0;have f1:=jG D0.o 1;have f2:=jG D0.o 2;have hE1:=e1;generalize zk t.seq=ps at*;generalize iF xs t.node=sn at*;generalize xs.length=nv at*
 by_cases h1:sn<ps
 ·have LK:=zH (HL.o h1)
  have d1:decide (sn<ps)=true:=aI h1;clear HL HC HK hE1
  go_quiet ((go_at_call 131;exact tF (KA.o _)))
  have DQ:Hid ((wb.drewN nq).heap[w.heap.size+1]? =some (.cells #[.int .i64 0,.int .i64 0,.int .i64 0] 77 (0,0))):=zH D0.o;go_wp2_with fail
  obtain ⟨q0,q1,q2⟩:=st3q DQ.o;refine bodyPost_ret (v:= .tuple #[.agg #[.int .i64 t.node,.int .i64 ps,.int .i64 0],.bool true]) (by simp [results,results256,go_sem,q0,q1,q2]) rfl ⟨_,_,_,rfl,fun _=>⟨LK.o,WN.o,WP.o,wf0⟩,(fun h=>nomatch h),?_⟩;exact (((below_drewN HB.o _).setCell (by simp) _).setCell (by simp) _).setCell (by simp) _
 ·have LC:=zH (HC.o h1)
  have HH1:=zH h1;have d1:decide (sn<ps)=false:=aF h1;clear HL HC hE1
  go_quiet ((go_at_call 131;exact tF (KA.o _)))
  obtain ⟨m,hm⟩:∃ m,m=dn:=⟨_,rfl⟩;have KX2:=zH (wE.below KX.o (below_drewN (aj _ _) nq));have HV2:=zH (HV.o.drawn nq);have DQ:Hid ((wb.drewN nq).heap[w.heap.size+1]? =some (.cells #[.int .i64 0,.int .i64 0,.int .i64 0] 77 (0,0))):=zH D0.o;have HB2:=zH (below_drewN HB.o nq);clear c0 c1 c2 t0 t1 t2 f0 f1 f2 KX HV D0 HB KA hm;generalize wb.drewN nq=wc at*;obtain ⟨c0,c1,c2,-⟩:=KX2.o.c;have t0:wc.cell? ⟨w.heap.size+1,0,none⟩=some (.int .i64 0):=cell_of_row _ _ 0 _ _ _ DQ.o;have t1:wc.cell? ⟨w.heap.size+1,1,none⟩=some (.int .i64 0):=cell_of_row _ _ 1 _ _ _ DQ.o;have t2:wc.cell? ⟨w.heap.size+1,2,none⟩=some (.int .i64 0):=cell_of_row _ _ 2 _ _ _ DQ.o;have f0:=jG DQ.o 0;have f1:=jG DQ.o 1;have f2:=jG DQ.o 2;have HDN:dn<=1000000:=by have:=HDL.o;rw [Tt.o.1] at this;exact this
  go_wp2_with fail
  go_loopw [25] (fun i wr=>∃ k:Nat,k<=dn/\i= .int .i64 k/\(∀ j,j<k ->says t.deps j<=says xs j)/\wr=wc) (fun i _=>dn-(intOf i).toNat)
  case atStart=>exact ⟨0,aL _,rfl,fun j hj=>absurd hj (by omega),rfl⟩
  case round=>
   obtain ⟨k,hk,rfl,hall,rfl⟩:=hrel;have qb:=zH hall;clear hall
   by_cases hlt:k<dn
   ·have K1:=zH (jJ (gW KX2.o.d) (k:Int))
    have K2:=zH (jJ HV2.o (k:Int));rw [lg] at K1 K2;have LK:=zH (HK.o k);have WSK:=zH (WS.o k);have WKK:=zH (show (Lit.int .i64 (k:Int)).wf=true from qh (by omega) (by omega));have HAN:Hid (¬ says xs k<says t.deps k ->∀ j,j<k+1 ->says t.deps j<=says xs j):=zH (fun h j hj=>by
     by_cases e:j=k
     ·rw [e];exact Int.not_lt.1 h
     ·exact qb.o j (by omega))
    generalize says t.deps k=sd at*;generalize says xs k=sx at*
    by_cases h2:sx<sd
    ·have d2:decide (sx<sd)=true:=aI h2
     have LK2:=zH (LK.o h2);go_wp2_with (first
      |(go_at_call_of 131 (Value.slice da dn dc);refine K1.o.mono ?_;rintro e w2 ⟨rfl,rfl⟩)
      |(go_at_call_of 131 (Value.slice av nv cv);refine K2.o.mono ?_;rintro e w2 ⟨rfl,rfl⟩))
     obtain ⟨q0,q1,q2⟩:=st3q DQ.o;refine bodyPost_ret (v:= .tuple #[.agg #[.int .i64 k,.int .i64 sd,.int .i64 0],.bool true]) (by simp [results,results256,go_sem,q0,q1,q2]) rfl ⟨_,_,_,rfl,fun _=>⟨LK2.o,WKK.o,WSK.o,wf0⟩,(fun h=>nomatch h),?_⟩;exact ((HB2.o.setCell (by simp) _).setCell (by simp) _).setCell (by simp) _
    ·have d2:decide (sx<sd)=false:=aF h2
     have HA2:=zH (HAN.o h2);go_wp2_with (first
      |(go_at_call_of 131 (Value.slice da dn dc);refine K1.o.mono ?_;rintro e w2 ⟨rfl,rfl⟩)
      |(go_at_call_of 131 (Value.slice av nv cv);refine K2.o.mono ?_;rintro e w2 ⟨rfl,rfl⟩))
     exact ⟨⟨k+1,by omega,by go_num,HA2.o,trivial⟩,by simp [intOf];omega⟩
   ·obtain rfl:k=dn:=by omega
    have LC2:=zH (LC.o (by rw [Tt.o.1];exact qb.o));go_wp2_with fail
    obtain ⟨q0,q1,q2⟩:=st3q DQ.o;refine bodyPost_ret (v:= .tuple #[.agg #[.int .i64 0,.int .i64 0,.int .i64 0],.bool false]) (by simp [results,results256,go_sem,q0,q1,q2]) rfl ⟨_,_,_,rfl,(fun h=>nomatch h),fun _=>LC2.o,?_⟩;exact ((HB2.o.setCell (by simp) _).setCell (by simp) _).setCell (by simp) _
end Go.Proofs.YtfgcodcablpdcaaGreat