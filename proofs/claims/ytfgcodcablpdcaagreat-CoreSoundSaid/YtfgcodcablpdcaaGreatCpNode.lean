import Derived.Test.YtfgcodcablpdcaaGreatCpTxns
import Derived.Test.YtfgcodcablpdcaaGreatCoRef
import Derived.Test.YtfgcodcablpdcaaGreatCoBox
set_option linter.unusedVariables false
namespace Go.Proofs.YtfgcodcablpdcaaGreat
open Go.Proofs.Tryz
open Go.RowKit Plain
structure FU(w:World)(t:fI)(ha:Option Addr)(hn hc:Nat)(ia:Option Addr)(im ic:Nat)(da:Option Addr)(dn dc:Nat)(ea:Option Addr)(en ec:Nat)(u:World):Prop where
 low:Below w.heap.size w u
 sb:u.heap[w.heap.size]? =some (.cells #[.slice ha hn hc,.slice ia im ic] 31 (0,0))
 tb:u.heap[w.heap.size+1]? =some (.cells #[.int .i64 t.node,.int .i64 t.seq,.slice da dn dc,.slice ea en ec] 82 (0,0))
 rb:∃ a n c a' n' c',u.heap[w.heap.size+2]? =some (.cells #[.slice a n c,.slice a' n' c'] 31 (0,0))
section
variable {w u u':World} {t:fI} {ha:Option Addr} {hn hc:Nat} {ia:Option Addr} {im ic:Nat} {da:Option Addr} {dn dc:Nat} {ea:Option Addr} {en ec:Nat}
theorem FU.below(k:FU w t ha hn hc ia im ic da dn dc ea en ec u)(hb:Below u.heap.size u u'):FU w t ha hn hc ia im ic da dn dc ea en ec u':=by
 have lt:∀ {i:Nat} {o:Obj},u.heap[i]? =some o ->u'.heap[i]? =some o:=fun {i o} h=>(hb.block i (aH.1 h).1).trans h
 obtain ⟨a,n,c,a',n',c',hr⟩:=k.rb;exact ⟨k.low.trans (hb.mono k.low.size),lt k.sb,lt k.tb,a,n,c,a',n',c',lt hr⟩
theorem FU.two(k:FU w t ha hn hc ia im ic da dn dc ea en ec u):Two u (w.heap.size+2):=by
 obtain ⟨a,n,c,a',n',c',hr⟩:=k.rb;exact ⟨a,n,c,a',n',c',_,hr⟩
theorem FU.set(k:FU w t ha hn hc ia im ic da dn dc ea en ec u)(a:Option Addr)(n c:Nat)(a':Option Addr)(n' c':Nat):FU w t ha hn hc ia im ic da dn dc ea en ec ((u.setCell ⟨w.heap.size+2,0,none⟩ (.slice a n c)).setCell ⟨w.heap.size+2,1,none⟩ (.slice a' n' c')):=by
 have hb:=qY u (w.heap.size+2) (.slice a n c) (.slice a' n' c');have lt:∀ {i:Nat} {o:Obj},i≠w.heap.size+2 ->u.heap[i]? =some o ->((u.setCell ⟨w.heap.size+2,0,none⟩ (.slice a n c)).setCell ⟨w.heap.size+2,1,none⟩ (.slice a' n' c')).heap[i]? =some o:=fun {i o} hne h=>(hb.block i (aH.1 h).1 hne).trans h
 obtain ⟨b,m,d,b',m',d',hr⟩:=k.rb;exact ⟨(k.low.setCell (by show w.heap.size<=w.heap.size+2;omega) _).setCell (by show w.heap.size<=w.heap.size+2;omega) _,lt (by omega) k.sb,lt (by omega) k.tb,a,n,c,a',n',c',vH hr _ _⟩
theorem FU.cells(k:FU w t ha hn hc ia im ic da dn dc ea en ec u):(u.cell? ⟨w.heap.size,0,none⟩=some (.slice ha hn hc)/\u.cell? ⟨w.heap.size,1,none⟩=some (.slice ia im ic))/\u.cell? ⟨w.heap.size+1,0,none⟩=some (.int .i64 t.node)/\u.cell? ⟨w.heap.size+1,1,none⟩=some (.int .i64 t.seq)/\u.cell? ⟨w.heap.size+1,2,none⟩=some (.slice da dn dc)/\u.cell? ⟨w.heap.size+1,3,none⟩=some (.slice ea en ec):=
 ⟨(kY k.sb).1,(iR k.tb).1⟩
theorem FU.res(k:FU w t ha hn hc ia im ic da dn dc ea en ec u):∃ a n c a' n' c',u.cell? ⟨w.heap.size+2,0,none⟩=some (.slice a n c)/\u.cell? ⟨w.heap.size+2,1,none⟩=some (.slice a' n' c')/\u.frozen? ⟨w.heap.size+2,0,none⟩=false/\u.frozen? ⟨w.heap.size+2,1,none⟩=false:=by
 obtain ⟨a,n,c,a',n',c',hr⟩:=k.rb;obtain ⟨⟨h0,h1⟩,h2,h3⟩:=kY hr;exact ⟨a,n,c,a',n',c',h0,h1,h2,h3⟩
end
structure vK(w:World)(ha:Option Addr)(hn hc:Nat)(ia:Option Addr)(im ic:Nat)(u:World):Prop where
 low:Below w.heap.size w u
 sb:u.heap[w.heap.size]? =some (.cells #[.slice ha hn hc,.slice ia im ic] 31 (0,0))
 rb:∃ a n c a' n' c',u.heap[w.heap.size+1]? =some (.cells #[.slice a n c,.slice a' n' c'] 31 (0,0))
section
variable {w u u':World} {ha:Option Addr} {hn hc:Nat} {ia:Option Addr} {im ic:Nat}
theorem vK.below(k:vK w ha hn hc ia im ic u)(hb:Below u.heap.size u u'):vK w ha hn hc ia im ic u':=by
 have lt:∀ {i:Nat} {o:Obj},u.heap[i]? =some o ->u'.heap[i]? =some o:=fun {i o} h=>(hb.block i (aH.1 h).1).trans h
 obtain ⟨a,n,c,a',n',c',hr⟩:=k.rb;exact ⟨k.low.trans (hb.mono k.low.size),lt k.sb,a,n,c,a',n',c',lt hr⟩
theorem vK.two(k:vK w ha hn hc ia im ic u):Two u (w.heap.size+1):=by
 obtain ⟨a,n,c,a',n',c',hr⟩:=k.rb;exact ⟨a,n,c,a',n',c',_,hr⟩
theorem vK.set(k:vK w ha hn hc ia im ic u)(a:Option Addr)(n c:Nat)(a':Option Addr)(n' c':Nat):vK w ha hn hc ia im ic ((u.setCell ⟨w.heap.size+1,0,none⟩ (.slice a n c)).setCell ⟨w.heap.size+1,1,none⟩ (.slice a' n' c')):=by
 have hb:=qY u (w.heap.size+1) (.slice a n c) (.slice a' n' c');obtain ⟨b,m,d,b',m',d',hr⟩:=k.rb;exact ⟨(k.low.setCell (by show w.heap.size<=w.heap.size+1;omega) _).setCell (by show w.heap.size<=w.heap.size+1;omega) _,(hb.block _ (aH.1 k.sb).1 (by omega)).trans k.sb,a,n,c,a',n',c',vH hr _ _⟩
theorem vK.res(k:vK w ha hn hc ia im ic u):∃ a n c a' n' c',u.cell? ⟨w.heap.size+1,0,none⟩=some (.slice a n c)/\u.cell? ⟨w.heap.size+1,1,none⟩=some (.slice a' n' c')/\u.frozen? ⟨w.heap.size+1,0,none⟩=false/\u.frozen? ⟨w.heap.size+1,1,none⟩=false:=by
 obtain ⟨a,n,c,a',n',c',hr⟩:=k.rb;obtain ⟨⟨h0,h1⟩,h2,h3⟩:=kY hr;exact ⟨a,n,c,a',n',c',h0,h1,h2,h3⟩
theorem vK.done(k:vK w ha hn hc ia im ic u)(x y:Value):((u.setCell ⟨w.heap.size+1,0,none⟩ x).setCell ⟨w.heap.size+1,1,none⟩ y).cell? ⟨w.heap.size+1,0,none⟩=some x/\((u.setCell ⟨w.heap.size+1,0,none⟩ x).setCell ⟨w.heap.size+1,1,none⟩ y).cell? ⟨w.heap.size+1,1,none⟩=some y:=by
 obtain ⟨a,n,c,a',n',c',hr⟩:=k.rb;exact (kY (vH hr x y)).1
theorem prat_new(w:World)(ha:Option Addr)(hn hc:Nat)(ia:Option Addr)(im ic:Nat):vK w ha hn hc ia im ic ((w.alloc (.cells #[.slice ha hn hc,.slice ia im ic] 31)).alloc (.cells #[.slice none 0 0,.slice none 0 0] 31)):=by
 have z1:(w.alloc (.cells #[.slice ha hn hc,.slice ia im ic] 31)).heap.size=w.heap.size+1:=by simp
 have b1:Below (w.heap.size+1) (w.alloc (.cells #[.slice ha hn hc,.slice ia im ic] 31)) ((w.alloc (.cells #[.slice ha hn hc,.slice ia im ic] 31)).alloc (.cells #[.slice none 0 0,.slice none 0 0] 31)):=(aj _ _).alloc (by simp) _;have h1:=aM w (.cells #[.slice ha hn hc,.slice ia im ic] 31);have h2:=aM (w.alloc (.cells #[.slice ha hn hc,.slice ia im ic] 31)) (.cells #[.slice none 0 0,.slice none 0 0] 31);rw [z1] at h2;exact ⟨((aj _ _).alloc (ah _) _).alloc (by simp) _,(b1.block _ (by omega)).trans h1,_,_,_,_,_,_,h2⟩
end
end Go.Proofs.YtfgcodcablpdcaaGreat
set_option maxRecDepth 100000
set_option maxHeartbeats 64000000
namespace Go.Proofs.YtfgcodcablpdcaaGreat
open Go.Proofs.Tryz
open Go.RowKit Plain
theorem XT{v tv:Value}{p:jV}{tw:Ints}{w:World}(hp:tH w v p)(ht:gQ w tv tw)(hl:p.floor.length<=1000)(hn:p.list.length<=1000000)(hf:∀ x∈p.list,lJ x)(htl:tw.length<=1000):
  Calls prog 101 #[v,tv] w (GivesPa w (qC p tw)):=by
 obtain ⟨fa,fn,fc,la,ln,lc,rfl,h1,h2⟩:=hp.slices;have DA:=zH (prat_new w fa fn fc la ln lc);have EL:Hid ((oF p).length<=1000000):=zH (by
  have e1:=Qq p.list p.floor;have e2:=trim_len (jd p.floor p.list);unfold oF;omega)
 have ML:Hid ((meet tw (oF p)).length<=1000000):=zH (by have:=Hq tw (oF p);omega);have KE:Hid (∀ u,vK w fa fn fc la ln lc u ->vK w fa fn fc la ln lc u/\u.cell? ⟨w.heap.size,0,none⟩=some (.slice fa fn fc)/\u.cell? ⟨w.heap.size,1,none⟩=some (.slice la ln lc)):=zH (fun u k=>⟨k,(kY k.sb).1⟩);have KD:=zH (fun u (k:vK w fa fn fc la ln lc u)=>Du (p:=p) ⟨_,_,rfl,h1.below k.low,h2.below k.low⟩ (by omega) hn);have KM:=zH (fun u ev (k:vK w fa fn fc la ln lc u) (he:gQ u ev (oF p))=>yI (ht.below k.low) he (by omega) EL.o);have KJ:Hid (∀ u ev,vK w fa fn fc la ln lc u ->gQ u ev (meet tw (oF p)) ->Calls prog 90 #[.slice fa fn fc,ev] u (ED u (lS p tw))):=zH (fun u ev k he=>yH (gW (h1.below k.low)) he (by omega) ML.o);have KU:=zH (fun u ev (k:vK w fa fn fc la ln lc u) (he:gQ u ev (lS p tw))=>Qr (h2.below k.low) he hn hf);obtain ⟨ta,tc,rfl,-⟩:=ht.parts;have HR:Hid (qC p tw=⟨lS p tw,oq p.list (lS p tw)⟩):=zH rfl;rw [HR.o];clear hp ht hl hn hf htl h1 h2 EL ML HR;generalize oq p.list (lS p tw)=ll at*;generalize lS p tw=pf at*;generalize meet tw (oF p)=me at*;generalize oF p=pe at*;generalize tw.length=tn at*;go_enter func101,ntmps101
 go_upto_region 1 with fail
 generalize ((w.alloc _).alloc _)=w0 at*;refine wp_region_held_drew (S:=fun u'=>vK w fa fn fc la ln lc u'/\u'.cell? ⟨w.heap.size,0,none⟩=some (.slice fa fn fc)/\u'.cell? ⟨w.heap.size,1,none⟩=some (.slice la ln lc)) (by kernel_rfl) ?_ (fun hH=> ?_)
 ·(exact KE.o _ (DA.o.below (aj _ _).drew))
 simp only [zS,aJ,Nat.reduceAdd]
 refine fJ 0 hH ?_;refine fJ 1 hH ?_;refine fJ 2 hH ?_;refine fJ 3 hH ?_;refine rd 4 fun K hK=> ?_
 go_simp
 refine (KD.o _ hH.1).mono ?_;rintro e s1 ⟨v1,rfl,ho,hb⟩;have S1:=zH ho.seq;obtain ⟨a1,c1,rfl,-,-,-,-⟩:=ho.parts;clear ho;refine hK.out _ _ (KE.o _ (hH.1.below hb)) (fun hH=> ?_);clear hK K hb;refine rd 5 fun K hK=> ?_
 go_simp
 refine (KM.o _ _ hH.1 S1.o).mono ?_;rintro e s2 ⟨v2,rfl,ho,hb⟩;have S2:=zH ho.seq;obtain ⟨a2,c2,rfl,-,-,-,-⟩:=ho.parts;clear ho S1;refine hK.out _ _ (KE.o _ (hH.1.below hb)) (fun hH=> ?_);clear hK K hb;refine rd 6 fun K hK=> ?_
 go_simp
 refine (KJ.o _ _ hH.1 S2.o).mono ?_;rintro e s3 ⟨v3,rfl,ho,hb⟩;have S3:=zH (ho.newI hH.1.low.size);obtain ⟨a3,c3,rfl,-,-,-,-⟩:=ho.parts;clear ho S2;refine hK.out _ _ (KE.o _ (hH.1.below hb)) (fun hH=> ?_);clear hK K hb;refine fJ 7 hH ?_;refine wpAnyH_done (by kernel_rfl) ?_ _;have D3:=zH hH.1;clear hH KE KD KM KJ DA;obtain ⟨c0,c1⟩:=(kY D3.o.sb).1;obtain ⟨fl3,hfl3⟩:∃ n,n=pf.length:=⟨_,rfl⟩;rw [<-hfl3] at S3 ⊢;clear hfl3;have K4:=zH (KU.o _ _ D3.o (gW S3.o.new));have W3:Hid (w.heap.size<=_):=zH D3.o.low.size;go_wp2_with fail
 refine K4.o.mono ?_;rintro e w4 ⟨a4,n4,c4,rfl,ho,hb⟩;have D4:=zH (D3.o.below hb);have S4:=zH (S3.o.later hb);have L4:Hid (Sq gV (fun b=>w.heap.size<=b/\b<w4.heap.size) w4 (.slice a4 n4 c4) ll):=zH (ho.mono fun b h=>⟨ak W3.o h.1,h.2⟩);clear ho hb K4 KU D3 S3 W3 c0 c1;obtain ⟨ra,rn,rc,ra',rn',rc',q0,q1,f0,f1⟩:=D4.o.res;have DZ:=zH (D4.o.done (.slice a3 fl3 c3) (.slice a4 n4 c4));have TW:=zH D4.o.two;have N5:=zH (Sq.set2 (qY _ _ (.slice a3 fl3 c3) (.slice a4 n4 c4)) (Gf TW.o S4.o));have I5:=zH (Sq.set2 (qY _ _ (.slice a3 fl3 c3) (.slice a4 n4 c4)) (Wv TW.o L4.o));have LZ:=zH ((D4.o.set a3 fl3 c3 a4 n4 c4).low);go_wp2_with fail
 obtain ⟨z0,z1⟩:=DZ.o;refine bodyPost_ret (v:= .agg #[.slice a3 fl3 c3,.slice a4 n4 c4]) (by simp [results,results101,go_sem,z0,z1]) rfl ?_;exact ⟨_,_,_,_,_,_,rfl,N5.o,I5.o,LZ.o⟩
end Go.Proofs.YtfgcodcablpdcaaGreat
namespace Go.Proofs.YtfgcodcablpdcaaGreat.Plain
open Go.Proofs.Tryz
theorem meet_self(a:Ints):meet a a=trim a:=pz (Us _ _) (oO _) fun i=>by rw [Dw,qD];omega
theorem XW{l:List fI}(hf:∀ t∈l,fQ t=true):oG l=l:=dQ.2 hf
theorem Ig{c:fT}(h:pU c):meet c.store.heard (oF c.past)=c.store.heard:=by rw [h.same,meet_self,h.st.cut]
theorem Un{c:fT}(h:pU c){l:List fI}(hf:∀ t∈l,fQ t=true):kH (meet c.store.heard (oF c.past)) l=jw c l:=by
 rw [Ig h];unfold jw kV;rw [XW hf]
theorem sU(c:fT)(l:List fI):(jw c l).length<=l.length:=Dq _ _
theorem Ch{c:fT}{l:List fI}{t:fI}(h:t∈jw c l):t∈l:=Hy h
theorem Qs(c:fT)(l:List fI):jw c (jw c l)=jw c l:=MQ (Ev c l) fun t ht=>sK ht
theorem XQ(c:fT)(l:List fI):qE c.store (jw c l)=qE c.store l:=by
 unfold qE;rw [show kV c.store.heard (jw c l)=kV c.store.heard l from Qs c l]
def rM(c:fT)(n:Int)(m:gu):fT×Int:=match FJ c n m with|some d=>(d,0)|none=>(oQ,2)
theorem oU{c d:fT}{n:Int}{m:gu}(h:FJ c n m=some d):rM c n m=(d,0):=by unfold rM;rw [h]
theorem wX{c:fT}{n:Int}{m:gu}(h:FJ c n m=none):rM c n m=(oQ,2):=by unfold rM;rw [h]
def qI(c:fT)(n:Int)(m:gu):Bool:=if n=0 then decide (m.kind=6) else if n=9 then decide (m.kind=6)&&decide (m.fU.length=0) else decide (m.kind=5)&&(decide (1<=n)&&decide (n<=c.cores))
theorem cDo_rec{c:fT}{n:Int}{m:gu}(hf:fV m=true)(h:qI c n m=true)(h9:c.cores<=7):FJ c n m=some (if n=0 then nH c m.fU else if n=9 then qF c else vG c (n-1).toNat m.vec):=by
 unfold qI at h;unfold FJ;rw [if_neg (by rw [hf];decide)]
 by_cases h0:n=0
 ·rw [if_pos h0,decide_eq_true_iff] at h
  rw [if_pos ⟨h0,h⟩,if_pos h0]
 ·rw [if_neg h0] at h
  rw [if_neg (by omega),if_neg h0]
  by_cases h9':n=9
  ·rw [if_pos h9',aD,decide_eq_true_iff,decide_eq_true_iff] at h
   rw [if_pos ⟨h9',h⟩,if_pos h9']
  ·rw [if_neg h9',aD,aD,decide_eq_true_iff,decide_eq_true_iff,decide_eq_true_iff] at h
   rw [if_neg (by omega),if_pos ⟨h.2.1,h.2.2,h.1⟩,if_neg h9']
theorem cDo_no{c:fT}{n:Int}{m:gu}(h:qI c n m=false)(h9:c.cores<=7):FJ c n m=none:=by
 unfold qI at h;unfold FJ
 by_cases hf:fV m=false
 ·rw [if_pos hf]
 rw [if_neg hf]
 by_cases h0:n=0
 ·rw [if_pos h0,decide_eq_false_iff_not] at h
  rw [if_neg (by omega),if_neg (by omega),if_neg (by omega)]
 ·rw [if_neg h0] at h
  by_cases h9':n=9
  ·rw [if_pos h9'] at h
   rw [if_neg (by omega),if_neg (fun k=>by simp [k.2.1,k.2.2] at h),if_neg (by omega)]
  ·rw [if_neg h9'] at h
   rw [if_neg (by omega),if_neg (by omega),if_neg (fun k=>by simp [k.1,k.2.1,k.2.2] at h)]
def yK(c:fT)(r:Int×gu):fT:=match FJ c r.1 r.2 with|some d=>d|none=>c
theorem Ur{c d:fT}{r:Int×gu}(h:FJ c r.1 r.2=some d):yK c r=d:=by unfold yK;rw [h]
theorem Uq{c:fT}{r:Int×gu}(h:FJ c r.1 r.2=none):yK c r=c:=by unfold yK;rw [h]
def xR(c:fT)(l:List (Int×gu)):fT:=l.foldl yK c
theorem Ih{c:fT}{l:List (Int×gu)}{k:Nat}(hk:k<l.length):xR c (l.take (k+1))=yK (xR c (l.take k)) l[k]:=by
 unfold xR;rw [bK hk,List.foldl_append]
 rfl
theorem cTo_at(c:fT):cTo c=uJ c.known c.me c.cores.toNat c.store.heard:=rfl
theorem cMeet_me{known:List Ints}{me:Int}{k:Nat}{v:Ints}(h:(k:Int)=me):uJ known me (k+1) v=uJ known me k v:=by simp only [uJ];rw [if_pos h]
theorem Qm{known:List Ints}{me:Int}{k:Nat}{v:Ints}(h:¬ (k:Int)=me):uJ known me (k+1) v=meet (uJ known me k v) (known.getD k []):=by simp only [uJ];rw [if_neg h]
theorem Ie(known:List Ints)(me:Int)(v:Ints):∀ k,(uJ known me k v).length<=v.length
 |0=>ah _
 |k+1=>by
  have h:=Ie known me v k;simp only [uJ]
  split
  ·exact h
  ·exact ak (Hq _ _) (ak (Nat.min_le_left _ _) h)
end Go.Proofs.YtfgcodcablpdcaaGreat.Plain
namespace Go.Proofs.YtfgcodcablpdcaaGreat
open Go.Proofs.Tryz
open Go.RowKit Plain
structure FP(t:fI):Prop where
 b:FK t
 texts:∀ e∈t.effs,e.key.length<=300/\e.field.length<=300
theorem FP.n{t:fI}(h:FP t):∀ e∈t.effs,Nm.Plain.fits e.n:=Kr h.b.tx.ok
structure nX(k:Nat)(c:fT):Prop where
 snd:pU c
 XY:c.known.length<=3
 me0:0<=c.me
 me1:c.me<c.cores
 list:c.past.list.length<=24*k
 fit:∀ t∈c.past.list,FP t
 items:c.store.items.length<=192*k
 its:∀ x∈c.store.items,∃ t,FP t/\∃ e∈t.effs,x=lV t.node t.seq e
 known:∀ v∈c.known,v.length<=8
theorem nX.mono{k l:Nat}{c:fT}(h:nX k c)(hl:k<=l):nX l c:=⟨h.snd,h.XY,h.me0,h.me1,by have:=h.list;omega,h.fit,by have:=h.items;omega,h.its,h.known⟩
theorem nX.cores{k:Nat}{c:fT}(h:nX k c):c.cores=(c.known.length:Int):=h.snd.kn.symm
theorem nX.c3{k:Nat}{c:fT}(h:nX k c):c.cores<=3:=by have:=h.XY;have:=h.cores;omega
theorem nX.heard{k:Nat}{c:fT}(h:nX k c):c.store.heard.length<=8:=h.snd.st.len
theorem nX.dots{k:Nat}{c:fT}(h:nX k c):∀ x∈c.store.items,jf x.dot:=fun x hx=>by
 obtain ⟨t,ht,e,he,rfl⟩:=h.its x hx;exact (ht.b.ok e he).1
theorem nX.tx{k:Nat}{c:fT}(h:nX k c):∀ t∈c.past.list,lJ t:=fun t ht=>(h.fit t ht).b.tx
theorem Qn{me:Int}{n:Nat}(h0:0<=me)(h1:me<n)(h3:n<=3):nX 0 (cNew me n):=
 ⟨TV me n,by simp [cNew];omega,h0,h1,by simp [cNew],fun t ht=>by simp [cNew] at ht,by simp [cNew],fun x hx=>by simp [cNew] at hx,fun v hv=>by simp [cNew] at hv;simp [hv.2]⟩
structure Qi(j:Nat)(m:gu):Prop where
 p:yB m
 r:MsFit m
 n:yt m
 vec:m.vec.length<=60
 t:m.fU.length<=24*j
 tf:∀ t∈m.fU,FP t
theorem tfit_of{l:List fI}(h:ny l=true)(hok:∀ t∈l,yD t):∀ t∈l,FP t:=fun t ht=>⟨(Ww h hok).2.1 t ht,(Ww h hok).2.2 t ht⟩
theorem Nb{m:gu}(h:wT m=true)(hok:Au m):Qi 1 m:=by
 have hs:=Wu h hok;obtain ⟨h1,h2,h3,h4,h5,h6⟩:=BU h;exact ⟨hs.p,hs.r,hs.n,h1,hs.t,tfit_of h6 hok.2.2.2.2.2⟩
theorem Ut{k j:Nat}{c:fT}{l:List fI}(h:nX k c)(hl:l.length<=24*j)(hf:∀ t∈l,FP t):nX (k+j) (nH c l):=by
 have hd:=sU c l;refine ⟨BO h.snd l,h.XY,h.me0,h.me1,?_,fun t ht=> ?_,?_,fun x hx=> ?_,h.known⟩
 ·show (c.past.list++jw c l).length<=_
  rw [aA];have:=h.list;omega
 ·rcases bA.1 (show t∈c.past.list++jw c l from ht) with ht|ht
  ·exact h.fit t ht
  ·exact hf t (Ch ht)
 ·show (qE c.store l).items.length<=_
  have h1:=sAll_len c.store l;have:=h.items;omega
 ·rcases sAll_mem (show x∈(qE c.store l).items from hx) with hx|⟨t,ht,e,he,rfl⟩
  ·exact h.its x hx
  ·exact ⟨t,hf t ht,e,he,rfl⟩
theorem Uu{k:Nat}{c:fT}(h:nX k c):nX k (qF c):=
 ⟨BP h.snd,h.XY,h.me0,h.me1,ak (Xw _ _) h.list,fun t ht=>h.fit t (Km.1 ht).1,h.items,h.its,h.known⟩
theorem XZ{k:Nat}{c:fT}(h:nX k c)(j:Nat){v:Ints}(hv:v.length<=8):nX k (vG c j v):=by
 refine ⟨Ey h.snd j v,by show (c.known.set j _).length<=3;rw [aX];exact h.XY,h.me0,h.me1,h.list,h.fit,h.items,h.its,fun u hu=> ?_⟩
 rcases List.mem_or_eq_of_mem_set (show u∈c.known.set j _ from hu) with hu|rfl
 ·exact h.known u hu
 ·have h1:=P9 (c.known.getD j []) v
  have h2:(c.known.getD j []).length<=8:=by
   by_cases hj:j<c.known.length
   ·simp only [List.getD,au hj,Option.getD_some]
    exact h.known _ (aU hj)
   ·simp [List.getD,List.getElem?_eq_none (Nat.le_of_not_lt hj)]
  omega
theorem WC{k j:Nat}{c d:fT}{n:Int}{m:gu}(h:nX k c)(hm:Qi j m)(hd:FJ c n m=some d):nX (k+j) d:=by
 unfold FJ at hd
 split at hd
 ·cases hd
 rename_i hf
 split at hd
 ·cases hd
  exact Ut h hm.t hm.tf
 split at hd
 ·cases hd
  exact (Uu h).mono (by omega)
 split at hd
 ·cases hd
  refine (XZ h _ ?_).mono (by omega);have hf:fV m=true:=by simpa using hf
  exact (qA (kJ.1 hf).vec).1
 ·cases hd
theorem XU{k j:Nat}{c:fT}{r:Int×gu}(h:nX k c)(hm:Qi j r.2):nX (k+j) (yK c r):=by
 unfold yK
 split
 ·rename_i d hd
  exact WC h hm hd
 ·exact h.mono (by omega)
theorem num_prec{n:Int}{m:gu}(hn:0<=n/\n<72057594037927936):iZ.get (prec n m)= .ok n.toNat (rJ m):=by
 unfold prec;rw [Ca];exact iZ.fwd n.toNat (rJ m) (show n.toNat<72057594037927936 by omega)
end Go.Proofs.YtfgcodcablpdcaaGreat
set_option maxRecDepth 100000
set_option maxHeartbeats 64000000
namespace Go.Proofs.YtfgcodcablpdcaaGreat
open Go.Proofs.Tryz
open Go.RowKit Plain
theorem yL{v:Value}{m:gu}{n:Int}{w:World}(hv:pE w v m)(hm:yB m)(hn:yt m)(hil:m.items.length<=32768)(htl:m.fU.length<=4096)(hf:fV m=true)(hnn:0<=n/\n<72057594037927936)(hz:(rJ m).length<=1000000000):Calls prog 59 #[.int .i64 n,v] w (By.Made w (prec n m)):=by
 obtain ⟨va,vn,vc,ga,gn,gc,za,zn,zc,na,nn,nc,ja,jm,jc,ta,tn,tc,rfl,H⟩:=hv.slices;have B0:=zH (zB w (.cells #[.int .i64 m.kind,.int .i64 m.ticket,.bool m.whole,.slice va vn vc,.slice ga gn gc,.slice za zn zc,.slice na nn nc,.slice ja jm jc,.slice ta tn tc] 46));have X:=zH (mW H);have KP:=zH (fun u (hb:Below (w.alloc (.cells #[.int .i64 m.kind,.int .i64 m.ticket,.bool m.whole,.slice va vn vc,.slice ga gn gc,.slice za zn zc,.slice na nn nc,.slice ja jm jc,.slice ta tn tc] 46)).heap.size (w.alloc (.cells #[.int .i64 m.kind,.int .i64 m.ticket,.bool m.whole,.slice va vn vc,.slice ga gn gc,.slice za zn zc,.slice na nn nc,.slice ja jm jc,.slice ta tn tc] 46)) u)=>mputP (X.o.below hb).is hm hn hil htl);have HF:=zH hf;obtain ⟨k,rfl⟩:∃ k:Nat,n=(k:Int):=⟨n.toNat,by omega⟩;have KN:=zH (fun u=>By.zF (w:=u) (v:= .slice none 0 0) (xs:=[]) (By.Seq.nil u) (by simp) k (by omega));have E:Hid (prec (k:Int) m=form k++rJ m):=zH (by unfold prec;rw [Ca];rfl);have FL:=zH (gP k (by omega));rw [E.o];have PZ:=zH hz;clear hv H hm hn hil htl hf hnn E hz;go_enter func59,ntmps59
 go_upto_region 1 with fail
 generalize (w.alloc _)=w0 at*;go_wp2_with fail
 refine (KN.o w0).mono ?_;rintro e w1 ⟨v1,rfl,ho,hb⟩;rw [bJ] at ho;have O1:=zH (ho.mono B0.o.size);have X1:=zH (X.o.below hb);have B1:=zH (B0.o.trans (hb.mono B0.o.size));have K2:=zH (KP.o w1 hb);obtain ⟨a1,n1,rfl,-,-,-,-⟩:=ho.parts;clear ho hb KN KP X;obtain ⟨c0,c1,c2,c3,c4,c5,c6,c7,c8⟩:=X1.o.c;generalize form k=fm at*;generalize hfe:fm.length=fl at*;have FE:=zH hfe;have FL2:Hid (fl<=8):=zH FL.o;clear hfe FL;go_wp2_with fail
 refine K2.o.mono ?_;intro e w2 hg;obtain ⟨v2,rfl,ho⟩:=hg.1 HF.o;have hb:=hg.2.2;have O2:=zH (O1.o.below hb (ah _));have S2:=zH ho.seq;have B2:=zH (B1.o.trans (hb.mono B1.o.size));obtain ⟨a2,n2,rfl,-,-,-,-⟩:=ho.parts;clear ho hg hb K2 c0 c1 c2 c3 c4 c5 c6 c7 c8;generalize rJ m=pm at*;go_wp2_with (at_builtin;refine By.iq rfl (.tmp 19) (.tmp 20) rfl w.heap.size rfl O2.o rfl S2.o (by rw [FE.o];have:=FL2.o;have:=PZ.o;omega) B2.o.size ?_)
 intro v5 w5 ho5 hgr hat;have O5:=zH ho5;have B5:=zH (B2.o.grown hgr B2.o.size fun q hq=>(O2.o.lt q hq).1);clear ho5 hgr hat;go_wp2_with fail
 go_ret
 exact ⟨_,rfl,O5.o,B5.o⟩
def GivesAns(w:World)(o:Option Bytes)(e:Ending)(w':World):Prop:=∃ v,e= .returned (.tuple #[v,.bool o.isSome])/\(∀ x,o=some x ->By.jv w.heap.size w' v x)/\(o=none ->v= .slice none 0 0)/\Below w.heap.size w w'
theorem Cj{l:List fI}(h:∀ t∈l,FP t)(hl:l.length<=1000000)(n:Int):yB {lQ with kind:=n,fU:=l}/\yt {lQ with kind:=n,fU:=l}:=
 ⟨⟨by simp [lQ],by simp [lQ],by simp [lQ],by simp [lQ],by simp [lQ],fun x hx=>(by cases hx),hl,fun t ht=>(h t ht).b.tx⟩,fun x hx=>(by cases hx),fun t ht=>(h t ht).n⟩
theorem gy.head{α:Type}{L:El α}{B:Nat}{w:World}{a:Option Addr}{n c:Nat}{xs:List α}(h:gy L B w (.slice a n c) xs)(hp:0<xs.length):∃ rb,a=some ⟨rb,0,none⟩:=by
 obtain ⟨vals,ho,-⟩:=h
 rcases ho.2 with ⟨-,h0⟩|⟨g,cap',cur,hv,-⟩
 ·omega
 ·simp only [aC] at hv;exact ⟨g,hv.1⟩
end Go.Proofs.YtfgcodcablpdcaaGreat
set_option maxRecDepth 100000
set_option maxHeartbeats 64000000
namespace Go.Proofs.YtfgcodcablpdcaaGreat
open Go.Proofs.Tryz
open Go.RowKit Plain
def rO(c:fT)(n:Int):Bool:=decide (0<=n)&&decide (n<c.cores)
def qK(c:fT)(n:Int):Bool:=rO c n&& !decide (n=c.me)
def tL(c:fT)(n:Int):Bool:=decide (0<=n)&&(decide (n<8)&&(!rO c n&& !decide (n=c.me)))
theorem AZ{v:Value}{c:fT}{n:Int}{w:World}(hv:kK w v c)(h3:c.cores<=3):Calls prog 97 #[v,.int .i64 n] w (fO w (rO c n)):=by
 obtain ⟨ha,hn,hc,ia,im,ic,fa,fn,fc,la,ln,lc,ka,kn,kc,rfl,h⟩:=hv.slices;have BX:=mX h;unfold fP at BX;have X:=zH BX;have B0:=zH (zB w (.cells #[.int .i64 c.me,.int .i64 c.cores,.slice ha hn hc,.slice ia im ic,.slice fa fn fc,.slice la ln lc,.slice ka kn kc] 34));have M1:min c.cores 3=c.cores:=by omega
 clear hv h BX h3;go_enter func97,ntmps97
 go_upto_region 1 with fail
 generalize (w.alloc _)=w0 at*;obtain ⟨c0,c1,c2,c3,c4,c5,c6⟩:=X.o.cl
 by_cases h0:0<=n
 ·by_cases h1:n<c.cores
  ·have E:Hid (rO c n=true):=zH (by simp [rO,h0,h1])
   go_wp2_with fail
   go_ret
   exact ⟨by rw [E.o];rfl,B0.o⟩
  ·have E:Hid (rO c n=false):=zH (by simp [rO,h1])
   go_wp2_with fail
   go_ret
   exact ⟨by rw [E.o];rfl,B0.o⟩
 ·have E:Hid (rO c n=false):=zH (by simp [rO,h0])
  go_wp2_with fail
  go_ret
  exact ⟨by rw [E.o];rfl,B0.o⟩
theorem Qt{v:Value}{c:fT}{n:Int}{w:World}(hv:kK w v c)(h3:c.cores<=3):Calls prog 57 #[v,.int .i64 n] w (fO w (qK c n)):=by
 obtain ⟨ha,hn,hc,ia,im,ic,fa,fn,fc,la,ln,lc,ka,kn,kc,rfl,h⟩:=hv.slices;have BX:=mX h;unfold fP at BX;have X:=zH BX;have B0:=zH (zB w (.cells #[.int .i64 c.me,.int .i64 c.cores,.slice ha hn hc,.slice ia im ic,.slice fa fn fc,.slice la ln lc,.slice ka kn kc] 34));have H3:=zH h3;clear hv h BX h3;go_enter func57,ntmps57
 go_upto_region 1 with fail
 generalize (w.alloc _)=w0 at*;obtain ⟨c0,c1,c2,c3,c4,c5,c6⟩:=X.o.cl;have K:=zH (AZ (n:=n) X.o.is H3.o);unfold fP at K;have RR:Hid (qK c n=(rO c n&& !decide (n=c.me))):=zH rfl;generalize rO c n=b at*;go_wp2_with fail
 refine K.o.mono ?_;rintro e w1 ⟨rfl,hb⟩;have B1:=zH (B0.o.trans (hb.mono B0.o.size));have X1:=zH (X.o.below hb);clear hb K X c0 c1 c2 c3 c4 c5 c6;obtain ⟨c0,c1,c2,c3,c4,c5,c6⟩:=X1.o.cl
 cases b
 ·have E:Hid (qK c n=false):=zH (by rw [RR.o];rfl)
  go_wp2_with fail
  go_ret
  exact ⟨by rw [E.o];rfl,B1.o⟩
 ·skip
  by_cases hm:n=c.me
  ·have E:Hid (qK c n=false):=zH (by rw [RR.o];simp [hm])
   have b1:(n !=c.me)=false:=by rw [bne_eq_false_iff_eq];exact hm
   clear hm;go_wp2_with fail
   go_ret
   exact ⟨by rw [E.o];rfl,B1.o⟩
  ·have E:Hid (qK c n=true):=zH (by rw [RR.o];simp [hm])
   have b1:(n !=c.me)=true:=bne_iff_ne.2 hm;clear hm;go_wp2_with fail
   go_ret
   exact ⟨by rw [E.o];rfl,B1.o⟩
theorem Uv{v:Value}{c:fT}{n:Int}{w:World}(hv:kK w v c)(h3:c.cores<=3):Calls prog 56 #[v,.int .i64 n] w (fO w (tL c n)):=by
 obtain ⟨ha,hn,hc,ia,im,ic,fa,fn,fc,la,ln,lc,ka,kn,kc,rfl,h⟩:=hv.slices;have BX:=mX h;unfold fP at BX;have X:=zH BX;have B0:=zH (zB w (.cells #[.int .i64 c.me,.int .i64 c.cores,.slice ha hn hc,.slice ia im ic,.slice fa fn fc,.slice la ln lc,.slice ka kn kc] 34));have H3:=zH h3;clear hv h BX h3;go_enter func56,ntmps56
 go_upto_region 1 with fail
 generalize (w.alloc _)=w0 at*;obtain ⟨c0,c1,c2,c3,c4,c5,c6⟩:=X.o.cl;have K:=zH (AZ (n:=n) X.o.is H3.o);unfold fP at K
 by_cases h0:0<=n
 rotate_left
 ·have E:Hid (tL c n=false):=zH (by simp [tL,h0])
  go_wp2_with fail
  go_ret
  exact ⟨by rw [E.o];rfl,B0.o⟩
 by_cases h8:n<8
 rotate_left
 ·have E:Hid (tL c n=false):=zH (by simp [tL,h8])
  go_wp2_with fail
  go_ret
  exact ⟨by rw [E.o];rfl,B0.o⟩
 have RR:Hid (tL c n=(!rO c n&& !decide (n=c.me))):=zH (by simp [tL,h0,h8]);generalize rO c n=b at*;go_wp2_with fail
 refine K.o.mono ?_;rintro e w1 ⟨rfl,hb⟩;have B1:=zH (B0.o.trans (hb.mono B0.o.size));have X1:=zH (X.o.below hb);clear hb K X c0 c1 c2 c3 c4 c5 c6;obtain ⟨c0,c1,c2,c3,c4,c5,c6⟩:=X1.o.cl
 cases b
 ·skip
  by_cases hm:n=c.me
  ·have E:Hid (tL c n=false):=zH (by rw [RR.o];simp [hm])
   have b1:(n !=c.me)=false:=by rw [bne_eq_false_iff_eq];exact hm
   clear hm;go_wp2_with fail
   go_ret
   exact ⟨by rw [E.o];rfl,B1.o⟩
  ·have E:Hid (tL c n=true):=zH (by rw [RR.o];simp [hm])
   have b1:(n !=c.me)=true:=bne_iff_ne.2 hm;clear hm;go_wp2_with fail
   go_ret
   exact ⟨by rw [E.o];rfl,B1.o⟩
 ·have E:Hid (tL c n=false):=zH (by rw [RR.o];rfl)
  go_wp2_with fail
  go_ret
  exact ⟨by rw [E.o];rfl,B1.o⟩
theorem MZ{v mv:Value}{c:fT}{m:gu}{n:Int}{w:World}(hv:kK w v c)(hm:pE w mv m)(h3:c.cores<=3)(hnn:0<=n/\n<=100000000000000000):Calls prog 42 #[v,.int .i64 n,mv] w (fO w (qI c n m)):=by
 obtain ⟨ha,hn,hc,ia,im,ic,fa,fn,fc,la,ln,lc,ka,kn,kc,rfl,h⟩:=hv.slices;have BX:=mX h;unfold fP at BX;have X:=zH BX;have B0:=zH (zB w (.cells #[.int .i64 c.me,.int .i64 c.cores,.slice ha hn hc,.slice ia im ic,.slice fa fn fc,.slice la ln lc,.slice ka kn kc] 34));obtain ⟨va,vn,vc,ga,gn,gc,za,zn,zc,na,nn,nc,ja,jm,jc,ta,tn,tc,rfl,H⟩:=hm.slices;have hb2:=(aj (w.alloc (.cells #[.int .i64 c.me,.int .i64 c.cores,.slice ha hn hc,.slice ia im ic,.slice fa fn fc,.slice la ln lc,.slice ka kn kc] 34)).heap.size (w.alloc (.cells #[.int .i64 c.me,.int .i64 c.cores,.slice ha hn hc,.slice ia im ic,.slice fa fn fc,.slice la ln lc,.slice ka kn kc] 34))).alloc (ah _) (.cells #[.int .i64 m.kind,.int .i64 m.ticket,.bool m.whole,.slice va vn vc,.slice ga gn gc,.slice za zn zc,.slice na nn nc,.slice ja jm jc,.slice ta tn tc] 46);have Y:=zH (mW (H.below B0.o));have X2:=zH (X.o.below hb2);have B2:=zH (B0.o.trans (hb2.mono B0.o.size));have ZW:Hid ((w.alloc (.cells #[.int .i64 c.me,.int .i64 c.cores,.slice ha hn hc,.slice ia im ic,.slice fa fn fc,.slice la ln lc,.slice ka kn kc] 34)).heap.size=w.heap.size+1):=zH (by simp);have TN:Hid (m.fU.length=tn):=zH H.l.iY.1;have H3:=zH h3;obtain ⟨n0,n1⟩:=hnn;clear hv hm h H BX h3 hb2 B0 X;go_enter func42,ntmps42
 go_upto_region 2 with fail
 generalize ((w.alloc _).alloc _)=w0 at*;rw [ZW.o] at Y;obtain ⟨y0,y1,y2,y3,y4,y5,y6,y7,y8⟩:=Y.o.c;obtain ⟨c0,c1,c2,c3,c4,c5,c6⟩:=X2.o.cl
 by_cases h0:n=0
 ·have b0:(n==0)=true:=beq_iff_eq.2 h0
  have E:Hid (qI c n m=decide (m.kind=6)):=zH (by unfold qI;rw [if_pos h0]);clear h0
  by_cases hk:m.kind=6
  ·have b1:(m.kind==6)=true:=beq_iff_eq.2 hk
   have E1:=zH hk;clear hk;go_wp2_with fail
   go_ret
   exact ⟨by rw [E.o];simp [E1.o],B2.o⟩
  ·have b1:(m.kind==6)=false:=beq_false_of_ne hk
   have E1:=zH hk;clear hk;go_wp2_with fail
   go_ret
   exact ⟨by rw [E.o];simp [E1.o],B2.o⟩
 have b0:(n==0)=false:=beq_false_of_ne h0
 by_cases h9:n=9
 ·have b9:(n==9)=true:=beq_iff_eq.2 h9
  have E:Hid (qI c n m=(decide (m.kind=6)&&decide (m.fU.length=0))):=zH (by unfold qI;rw [if_neg h0,if_pos h9]);rw [TN.o] at E;clear h0 h9
  by_cases hk:m.kind=6
  ·have b1:(m.kind==6)=true:=beq_iff_eq.2 hk
   have E1:=zH hk;clear hk
   by_cases ht:tn=0
   ·have b2:((tn:Int)==0)=true:=by rw [ht];rfl
    have E2:=zH ht;clear ht;go_wp2_with fail
    go_ret
    exact ⟨by rw [E.o];simp [E1.o,E2.o],B2.o⟩
   ·have b2:((tn:Int)==0)=false:=beq_false_of_ne (by omega)
    have E2:=zH ht;clear ht;go_wp2_with fail
    go_ret
    exact ⟨by rw [E.o];simp [E1.o,E2.o],B2.o⟩
  ·have b1:(m.kind==6)=false:=beq_false_of_ne hk
   have E1:=zH hk;clear hk;go_wp2_with fail
   go_ret
   exact ⟨by rw [E.o];simp [E1.o],B2.o⟩
 have b9:(n==9)=false:=beq_false_of_ne h9;have E:Hid (qI c n m=(decide (m.kind=5)&&(decide (1<=n)&&decide (n<=c.cores)))):=zH (by unfold qI;rw [if_neg h0,if_neg h9]);have NB:Hid (rO c (n-1)=(decide (1<=n)&&decide (n<=c.cores))):=zH (by unfold rO;rw [show decide (0<=n-1)=decide (1<=n) from decide_eq_decide.2 (by omega),show decide (n-1<c.cores)=decide (n<=c.cores) from decide_eq_decide.2 (by omega)]);have K:=zH (AZ (n:=n-1) X2.o.is H3.o);rw [NB.o] at K;unfold fP at K;clear h0 h9
 by_cases hk:m.kind=5
 ·have b1:(m.kind==5)=true:=beq_iff_eq.2 hk
  have E1:=zH hk;clear hk NB;generalize (decide (1<=n)&&decide (n<=c.cores))=b at*;go_wp2_with fail
  refine K.o.mono ?_;rintro e w1 ⟨rfl,hb⟩;have B3:=zH (B2.o.trans (hb.mono B2.o.size));clear hb K
  cases b
  ·go_wp2_with fail
   go_ret
   exact ⟨by rw [E.o];simp [E1.o],B3.o⟩
  ·go_wp2_with fail
   go_ret
   exact ⟨by rw [E.o];simp [E1.o],B3.o⟩
 ·have b1:(m.kind==5)=false:=beq_false_of_ne hk
  have E1:=zH hk;clear hk;go_wp2_with fail
  go_ret
  exact ⟨by rw [E.o];simp [E1.o],B2.o⟩
end Go.Proofs.YtfgcodcablpdcaaGreat