import Derived.Test.YtfgcodcablpdcaaGreatTxPuts
import Derived.Test.YtfgcodcablpdcaaGreatRefTxOC
set_option linter.unusedVariables false
set_option maxRecDepth 100000
set_option maxHeartbeats 64000000
namespace Go.Proofs.YtfgcodcablpdcaaGreat
open Go.Proofs.Tryz
open Go.RowKit Plain
theorem putE_of{node seq:Int}{x:gD}(h:iD node seq x=true)(hn:Nm.Plain.fits x.n):PutE x:=by
 obtain ⟨h1,h2,h3,h4,h5,h6,h7,h8,h9⟩:=sZ h;exact ⟨⟨h6,h7⟩,by omega,by omega,⟨h4,h5⟩,by omega,hn,h8,h9⟩
theorem aas{t:fI}{da ea:Option Addr}{dn dc en ec:Nat}{w:World}(hd:fM gL w (.slice da dn dc) t.deps)(he:fM jo w (.slice ea en ec) t.effs)(hf:fQ t=true)(hn:∀ e∈t.effs,Nm.Plain.fits e.n):
  Calls prog 202 #[.agg #[.int .i64 t.node,.int .i64 t.seq,.slice da dn dc,.slice ea en ec]] w (jM w.heap.size w (.slice none 0 0) (aam t)):=by
 obtain ⟨f1,f2,f3,f4,f5⟩:=jq.1 hf;have hr:0<=t.node/\t.node<=7/\1<=t.seq/\t.seq<=1073741824:=by
  unfold inRange at f1;exact bR f1
 obtain ⟨d1,d2⟩:=ug f2;have hq:∀ e∈t.effs,PutE e:=by
  unfold nN at f4;rw [aD,aR] at f4;exact fun e h=>putE_of (f4.1 e h) (hn e h)
 have hdn:=hd.iY;have hen:=he.iY;have RT:=zH hr;have R1:=zH d1;have R2:=zH d2;have R3:=zH f3;have RQ:=zH hq;have hba:=zB w (.cells #[.int .i64 t.node,.int .i64 t.seq,.slice da dn dc,.slice ea en ec] 82);have ZB:Hid (w.heap.size<=(w.alloc (.cells #[.int .i64 t.node,.int .i64 t.seq,.slice da dn dc,.slice ea en ec] 82)).heap.size):=zH hba.size;have GW:Hid (Grow w.heap.size w (.slice none 0 0) (w.alloc (.cells #[.int .i64 t.node,.int .i64 t.seq,.slice da dn dc,.slice ea en ec] 82)) (.slice none 0 0)):=zH ((Grow.refl _ w _).keep hba (ah _));have O0:Hid (By.jv w.heap.size (w.alloc (.cells #[.int .i64 t.node,.int .i64 t.seq,.slice da dn dc,.slice ea en ec] 82)) (.slice none 0 0) []):=zH (By.jv.nil _ _);have G0:=zH (Grow.refl w.heap.size (w.alloc (.cells #[.int .i64 t.node,.int .i64 t.seq,.slice da dn dc,.slice ea en ec] 82)) (.slice none 0 0));have CT:Hid (∀ W u,Grow w.heap.size (w.alloc (.cells #[.int .i64 t.node,.int .i64 t.seq,.slice da dn dc,.slice ea en ec] 82)) (.slice none 0 0) W u ->W.cell? ⟨w.heap.size,0,none⟩=some (.int .i64 t.node)/\W.cell? ⟨w.heap.size,1,none⟩=some (.int .i64 t.seq)/\W.cell? ⟨w.heap.size,2,none⟩=some (.slice da dn dc)/\W.cell? ⟨w.heap.size,3,none⟩=some (.slice ea en ec)):=zH (fun W u h=>by
  have hb:=h.kept w.heap.size (by simp) (by simp [Value.ownBlock]);refine ⟨?_,?_,?_,?_⟩
  ·exact (aQ (a:=⟨w.heap.size,0,none⟩) hb).trans (by simp)
  ·exact (aQ (a:=⟨w.heap.size,1,none⟩) hb).trans (by simp)
  ·exact (aQ (a:=⟨w.heap.size,2,none⟩) hb).trans (by simp)
  ·exact (aQ (a:=⟨w.heap.size,3,none⟩) hb).trans (by simp))
 have HBW:Hid (∀ W u,Grow w.heap.size (w.alloc (.cells #[.int .i64 t.node,.int .i64 t.seq,.slice da dn dc,.slice ea en ec] 82)) (.slice none 0 0) W u ->Below w.heap.size w W):=zH (fun W u h=>hba.trans h.below);have HD:=zH hd;have HE:=zH he;have HPE:Hid (aam t=fZ [t.node,t.seq,(t.deps.length:Int)]++fZ t.deps++fZ [(t.effs.length:Int)]++t.effs.flatMap zy):=zH rfl;have CB:=zH (fun k (hk:k<t.effs.length)=>jW zy t.effs (k:=k) hk);obtain ⟨P,hP⟩:∃ P:Nat ->Bytes,P=fun k=>(t.effs.take k).flatMap zy:=⟨_,rfl⟩
 have PS:Hid (∀ k,k<t.effs.length ->P (k+1)=P k++zy (t.effs.getD k default)):=zH (fun k hk=>by rw [hP];exact CB.o k hk);have P0:Hid (P 0=[]):=zH (by rw [hP];rfl);have PN:Hid (P t.effs.length=t.effs.flatMap zy):=zH (by rw [hP];show (t.effs.take t.effs.length).flatMap zy=_;rw [bq]);have PL:Hid (∀ k,(P k).length<=48000):=zH (fun k=>by
  rw [hP];have h1:=j6 zy 6000 (t.effs.take k) (fun d hd=>peff_len (hq d (bO hd)));have h2:(t.effs.take k).length<=8:=by rw [aO];omega
  exact ak h1 (by omega))
 clear hP CB hd he hf hn f1 f2 f3 f4 f5 hr d1 d2 hq hba;obtain ⟨hdn,hd1,hd2⟩:=hdn;obtain ⟨hen,he1,he2⟩:=hen;rw [hdn] at HPE R1;rw [hen] at HPE PS PN R3;have LD:=zH hdn;have LE:=zH hen;clear hdn hen;have PF:Hid ((fZ t.deps).length<=64):=zH (by
  have:=iU (ns:=t.deps) (fun n h=>by have:=R2.o n h;omega);rw [LD.o] at this;have:=R1.o;omega)
 obtain ⟨Y0,hY0⟩:∃ Y:Bytes,Y=[]:=⟨_,rfl⟩;rw [<-hY0] at O0;have N0:Hid (Y0.length<=0+0):=zH (by rw [hY0];simp);have EY0:=zH hY0;clear hY0;obtain ⟨xl,hxl⟩:∃ n:Nat,n=0:=⟨_,rfl⟩;rw [<-hxl] at N0;replace N0:Hid (Y0.length<=xl+0):=zH (by have:=N0.o;omega);replace hxl:=zH hxl;obtain ⟨a0,ha0⟩:∃ a:Option Addr,a=none:=⟨_,rfl⟩;go_enter func202,ntmps202
 go_upto_region 1 with fail
 generalize (w.alloc _)=u0 at*;clear ha0;have K1:Hid (Calls prog 254 #[.slice none 0 0,.slice (some ⟨u0.heap.size,0,none⟩) 3 3] (u0.alloc (.cells #[.int .i64 t.node,.int .i64 t.seq,.int .i64 (dn:Int)] 3)) (jM w.heap.size (u0.alloc (.cells #[.int .i64 t.node,.int .i64 t.seq,.int .i64 (dn:Int)] 3)) (.slice none 0 0) (Y0++fZ [t.node,t.seq,(dn:Int)]))):=zH (qR (O0.o.alloc _) (by have:=G0.o.size;have:=ZB.o;simp;omega) (l9 u0 #[.int .i64 t.node,.int .i64 t.seq,.int .i64 (dn:Int)] [t.node,t.seq,(dn:Int)] (.slice none 0 0) rfl (by simp) (fun k hk=>(O0.o.lt k hk).2)) (fun b hb=>hb) (by intro n hn;simp at hn;have:=RT.o;have:=R1.o;omega) (by have:=N0.o;have:=hxl.o;simp;omega));have LL1:=iU (ns:=[t.node,t.seq,(dn:Int)]) (by intro n hn;simp at hn;have:=RT.o;have:=R1.o;omega);simp only [aZ,bf] at LL1
 obtain ⟨e0,e1,e2,e3⟩:=CT.o _ _ G0.o;go_wp2_with fail
 refine K1.o.mono ?_;rintro e u1 ⟨v',rfl,ho,hg⟩;have G1:=zH ((G0.o.keep ((aj _ _).alloc (ah _) _) ZB.o).trans hg);obtain ⟨a1,c1,rfl,-,-,-,-⟩:=ho.parts;have O1:=zH ho;clear ho hg K1;have YL:(Y0++fZ [t.node,t.seq,(dn:Int)]).length<=xl+24:=by rw [aA];have:=N0.o;omega
 clear LL1;generalize hn:(Y0++fZ [t.node,t.seq,(dn:Int)]).length=n1 at*;generalize hY:Y0++fZ [t.node,t.seq,(dn:Int)]=Y1 at*;have E1:=zH hY.symm;have N1:Hid (Y1.length<=xl+24):=zH (by rw [hn];exact YL);have M1:=zH hn;clear hn hY YL;clear e0 e1 e2 e3;have K2:Hid (Calls prog 254 #[.slice a1 n1 c1,.slice da dn dc] u1 (jM w.heap.size u1 (.slice a1 n1 c1) (Y1++fZ t.deps))):=zH (qR O1.o (by have:=G1.o.size;have:=ZB.o;omega) (Q:=(· <w.heap.size)) (HD.o.agree fun b hb=>(HBW.o _ _ G1.o).block b hb) (fun b hb=>⟨by have:=G1.o.size;have:=ZB.o;omega,fun e=>by have:=(O1.o.lt _ e).1;omega⟩) (fun n h=>by have:=R2.o n h;omega) (by rw [LD.o];have:=R1.o;have:=N1.o;have:=hxl.o;omega));obtain ⟨e0,e1,e2,e3⟩:=CT.o _ _ G1.o;go_wp2_with fail
 refine K2.o.mono ?_;rintro e u2 ⟨v',rfl,ho,hg⟩;have G2:=zH (G1.o.trans hg);obtain ⟨a2,c2,rfl,-,-,-,-⟩:=ho.parts;have O2:=zH ho;clear ho hg K2 e0 e1 e2 e3;have YL:(Y1++fZ t.deps).length<=xl+88:=by rw [aA];have:=N1.o;have:=PF.o;omega
 generalize hn:(Y1++fZ t.deps).length=n2 at*;generalize hY:Y1++fZ t.deps=Y2 at*;have E2:=zH hY.symm;have N2:Hid (Y2.length<=xl+88):=zH (by rw [hn];exact YL);clear hn hY YL;have K3:Hid (Calls prog 254 #[.slice a2 n2 c2,.slice (some ⟨u2.heap.size,0,none⟩) 1 1] (u2.alloc (.cells #[.int .i64 (en:Int)] 3)) (jM w.heap.size (u2.alloc (.cells #[.int .i64 (en:Int)] 3)) (.slice a2 n2 c2) (Y2++fZ [(en:Int)]))):=zH (qR (O2.o.alloc _) (by have:=G2.o.size;have:=ZB.o;simp;omega) (l9 u2 #[.int .i64 (en:Int)] [(en:Int)] (.slice a2 n2 c2) rfl (by simp) (fun k hk=>(O2.o.lt k hk).2)) (fun b hb=>hb) (by intro n hn;simp at hn;have:=R3.o;omega) (by have:=N2.o;have:=hxl.o;simp;omega));have LL3:=iU (ns:=[(en:Int)]) (by intro n hn;simp at hn;have:=R3.o;omega);simp only [aZ,bf] at LL3
 obtain ⟨e0,e1,e2,e3⟩:=CT.o _ _ G2.o;go_wp2_with fail
 refine K3.o.mono ?_;rintro e u3 ⟨v',rfl,ho,hg⟩;have G3:=zH ((G2.o.keep ((aj _ _).alloc (ah _) _) ZB.o).trans hg);obtain ⟨a3,c3,rfl,-,-,-,-⟩:=ho.parts;have O3:=zH ho;clear ho hg K3;have YL:(Y2++fZ [(en:Int)]).length<=xl+96:=by rw [aA];have:=N2.o;omega
 clear LL3;generalize hn:(Y2++fZ [(en:Int)]).length=n3 at*;generalize hY:Y2++fZ [(en:Int)]=Y3 at*;have E3:=zH hY.symm;have N3:Hid (Y3.length<=xl+96):=zH (by rw [hn];exact YL);have M3:=zH hn;clear hn hY YL;clear e0 e1 e2 e3;obtain ⟨e0,e1,e2,e3⟩:=CT.o _ _ G3.o;go_wp2_with fail
 clear e0 e1 e2 e3
 go_loopw [3,28] (fun z i wr=>∃ k:Nat,k<=en/\i= .int .i64 k/\By.jv w.heap.size wr z (Y3++P k)/\Grow w.heap.size u0 (.slice none 0 0) wr z) (fun _ i _=>en-(intOf i).toNat)
 case atStart=>exact ⟨0,aL _,rfl,by rw [P0.o,aV];exact O3.o,G3.o⟩
 case round=>
  obtain ⟨k,hk,rfl,ho,hg⟩:=hrel;have HO:=zH ho;have HG:=zH hg;clear ho hg
  by_cases hlt:k<en
  ·have PK:=zH (PS.o k hlt)
   have LK:=zH (PL.o k);have BW:=zH (HBW.o _ _ HG.o);obtain ⟨b,o,c,hv,-,-,-,hc⟩:=mZ HE.o (by rw [LE.o];omega);rw [LE.o] at hv;simp only [aC] at hv
   obtain ⟨rfl,-,rfl⟩:=hv;obtain ⟨dv,EX,hsd⟩:=hc k (by rw [LE.o];exact hlt);have QX:=zH (RQ.o _ (pJ (l:=t.effs) (k:=k) (by rw [LE.o];exact hlt)));clear hc;generalize t.effs.getD k default=x at*;obtain ⟨xa,xn,rfl,-,-,-,-⟩:∃ xa xn,dv= .slice xa x.drops.length xn/\True/\True/\True/\True:=by
    obtain ⟨a,c,e,-⟩:=hsd.parts;exact ⟨a,c,e,trivial,trivial,trivial,trivial⟩
   have SD:Hid (Sq jI (· <w.heap.size) wr (.slice xa x.drops.length xn) x.drops):=zH (hsd.agree fun b hb=>BW.o.block b hb);obtain ⟨e0,e1,e2,e3,e4,e5,e6⟩:=EX.below BW.o EX.lt;clear hsd EX;obtain ⟨za,zc,rfl,-,-,-,-⟩:=HO.o.parts;generalize hzl:(Y3++P k).length=zl at*;clear hzl;generalize x.drops.length=xm at*;have EB:=zH (mY wr x xa xm xn);have OB:=zH (HO.o.alloc (.cells #[.int .i64 x.pos,.string (bt x.key),.string (bt x.field),.int .i64 x.kind,.string (bt x.elem),.int .i64 x.n,.slice xa xm xn] 85));have GB:=zH (HG.o.keep ((aj _ _).alloc (ah _) (.cells #[.int .i64 x.pos,.string (bt x.key),.string (bt x.field),.int .i64 x.kind,.string (bt x.elem),.int .i64 x.n,.slice xa xm xn] 85)) ZB.o);have SB:=zH (SD.o.agree fun b hb=>(zB wr (.cells #[.int .i64 x.pos,.string (bt x.key),.string (bt x.field),.int .i64 x.kind,.string (bt x.elem),.int .i64 x.n,.slice xa xm xn] 85)).block b (by have:=BW.o.size;omega));go_upto_region 7 with fail
   clear e0 e1 e2 e3 e4 e5 e6;generalize (wr.alloc _)=wd at*;obtain ⟨e0,e1,e2,e3,e4,e5,e6⟩:=EB.o.zero;have K7:=zH (peff_any OB.o (by have:=GB.o.size;have:=ZB.o;omega) SB.o QX.o (by rw [aA];have:=N3.o;have:=LK.o;have:=hxl.o;omega));go_wp2_with fail
   refine K7.o.mono ?_;rintro e u7 ⟨v',rfl,ho,hg⟩;have G7:=zH (GB.o.trans hg);have O7:=zH ho;obtain ⟨a7,c7,rfl,-,-,-,-⟩:=ho.parts;clear ho hg K7 e0 e1 e2 e3 e4 e5 e6;generalize hnn:(Y3++P k++zy x).length=n7 at*;clear hnn;go_wp2_with fail
   go_roundw
   case rel=>exact ⟨k+1,by omega,by go_num,by rw [PK.o,<-aY];exact O7.o,G7.o⟩
   case measure=>simp [intOf]<;>omega
  ·obtain rfl:k=en:=by omega
   have OE:Hid (By.jv w.heap.size wr _ (aam t)):=zH (by
    have h:=HO.o;rw [E3.o,E2.o,E1.o,PN.o,EY0.o,bJ] at h;rw [HPE.o];exact h)
   go_wp2_with fail
   go_ret
   exact ⟨_,rfl,OE.o,GW.o.trans HG.o⟩
def Tp(w:World)(bs:Bytes)(t:fI)(e:Ending)(w':World):Prop:=
 (fQ t=true ->∃ v,e= .returned (.tuple #[v,.int .i64 0])/\By.jv w.heap.size w' v (bs++kC.put t))/\(fQ t=false ->∃ a c,e= .returned (.tuple #[.slice a 0 c,.int .i64 2]))/\Below w.heap.size w w'
theorem txputP{b v:Value}{bs:Bytes}{t:fI}{w:World}(hb:By.Seq w b bs)(hl:bs.length<=10000)(h:kN w v t)(ht:lJ t):Calls prog 129 #[b,v] w (Tp w bs t):=by
 obtain ⟨da,dn,dc,ea,en,ec,rfl,k1,k2⟩:=h.slices;have hba:=zB w (.cells #[.int .i64 t.node,.int .i64 t.seq,.slice da dn dc,.slice ea en ec] 82);have KF:=zH (vL (h.below hba) ht _ rfl);have ZT:Hid (w.heap.size<(w.alloc (.cells #[.int .i64 t.node,.int .i64 t.seq,.slice da dn dc,.slice ea en ec] 82)).heap.size):=zH (by simp);have G0:=zH hba;have KP:=zH (fun W (hb:Below (w.alloc (.cells #[.int .i64 t.node,.int .i64 t.seq,.slice da dn dc,.slice ea en ec] 82)).heap.size (w.alloc (.cells #[.int .i64 t.node,.int .i64 t.seq,.slice da dn dc,.slice ea en ec] 82)) W) (hf:fQ t=true)=>aas (k1.below (hba.trans (hb.mono hba.size))) (k2.below (hba.trans (hb.mono hba.size))) hf (fun e he=>i64_in (ht.ok.2.2.2 e he).2.2.1));have HL:=zH (fun hf:fQ t=true=>PG hf);have HP:=zH (ptxn_put t);have SB:=zH (fun W (hb':Below w.heap.size w W)=>hb.below hb');obtain ⟨ba,bc,rfl,-,-,-,-⟩:=hb.parts;have CT:Hid (∀ W,Below (w.alloc (.cells #[.int .i64 t.node,.int .i64 t.seq,.slice da dn dc,.slice ea en ec] 82)).heap.size (w.alloc (.cells #[.int .i64 t.node,.int .i64 t.seq,.slice da dn dc,.slice ea en ec] 82)) W ->W.cell? ⟨w.heap.size,0,none⟩=some (.int .i64 t.node)/\W.cell? ⟨w.heap.size,1,none⟩=some (.int .i64 t.seq)/\W.cell? ⟨w.heap.size,2,none⟩=some (.slice da dn dc)/\W.cell? ⟨w.heap.size,3,none⟩=some (.slice ea en ec)):=zH (fun W h=>by
  refine ⟨?_,?_,?_,?_⟩
  ·exact (h.cell (p:=⟨w.heap.size,0,none⟩) ZT.o).trans (by simp)
  ·exact (h.cell (p:=⟨w.heap.size,1,none⟩) ZT.o).trans (by simp)
  ·exact (h.cell (p:=⟨w.heap.size,2,none⟩) ZT.o).trans (by simp)
  ·exact (h.cell (p:=⟨w.heap.size,3,none⟩) ZT.o).trans (by simp))
 unfold Tp;rw [<-HP.o] at HL ⊢;clear HP;generalize aam t=pt at*;clear hb h ht k1 k2 hba;generalize fQ t=r at*;generalize hbl:bs.length=bl at*;have BL:=zH hbl;clear hbl;go_enter func129,ntmps129
 go_upto_region 1 with fail
 generalize (w.alloc _)=w0 at*;obtain ⟨e0,e1,e2,e3⟩:=CT.o _ (aj _ _);go_wp2_with fail
 refine KF.o.mono ?_;rintro e w1 ⟨rfl,hb1⟩;have B1:=zH hb1;clear hb1 KF e0 e1 e2 e3;obtain ⟨e0,e1,e2,e3⟩:=CT.o _ B1.o
 cases r with
 |false=>
  have GE:Hid (Below w.heap.size w w1):=zH (G0.o.trans (B1.o.mono G0.o.size));clear KP HL;go_wp2_with fail
  go_ret2
  exact ⟨⟨_,_,rfl⟩,GE.o⟩
 |true=>
  have K:=zH (KP.o w1 B1.o rfl);have GE:Hid (Below w.heap.size w w1):=zH (G0.o.trans (B1.o.mono G0.o.size));have FL:=zH (HL.o rfl);clear KP HL;go_wp2_with fail
  refine K.o.mono ?_;rintro e w2 ⟨v2,rfl,ho,hg⟩;have B2:Hid (Below w1.heap.size w1 w2):=zH hg.below;have S2:=zH ho.seq;obtain ⟨a2,c2,rfl,-,-,-,-⟩:=ho.parts;have GE2:Hid (Below w.heap.size w w2):=zH (GE.o.trans (B2.o.mono GE.o.size));clear ho hg K e0 e1 e2 e3;have SB2:=zH (SB.o w2 GE2.o);generalize hpl:pt.length=pl at*;have PLE:=zH hpl;clear hpl;go_wp2_with fail
  refine (By.AO _ _ _ (cell_of_row _ _ 0 _ 42 (0,0) (aM w2 _)) (cell_of_row _ _ 1 _ 42 (0,0) (aM w2 _)) (SB2.o.iB _) (S2.o.iB _) (by rw [PLE.o,BL.o];have:=FL.o;omega)).mono ?_;rintro e w3 ⟨v3,rfl,ho3,hb3⟩;have O3:Hid (By.jv w.heap.size w3 v3 (bs++pt)):=zH (ho3.mono (by have:=GE2.o.size;simp;omega));have GE3:Hid (Below w.heap.size w w3):=zH ((GE2.o.alloc GE2.o.size _).trans (hb3.mono (by have:=GE2.o.size;simp;omega)));clear ho3 hb3;go_wp2_with fail
  go_ret2
  exact ⟨⟨_,rfl,O3.o⟩,GE3.o⟩
theorem Vn{B g:Nat}{w w':World}{v:Value}{xs:Bytes}(h:By.jv B w v xs)(hb:But g w w')(hg:g<B):By.jv B w' v xs:=by
 refine ⟨h.1,?_⟩
 rcases h.2 with hn|⟨g',cap,cur,hv,hb',hg',hr'⟩
 ·exact .inl hn
 ·have hlt:g'<w.heap.size:=(aH.1 hg').1
  exact .inr ⟨g',cap,cur,hv,hb',(hb.block g' hlt (by omega)).trans hg',hr'⟩
theorem Vm{a:Option Addr}{n c:Nat}{xs:Bytes}{w:World}(hs:By.Seq w (.slice a n c) xs)(hl:xs.length<=1000000)(h0:a=none ->c=0):Calls prog 96 #[.slice a n c] w fun e w'=>∃ v,e= .returned v/\By.jv w.heap.size w' v xs/\Below w.heap.size w w':=by
 cases a with
 |some ad=>exact By.wN hs (ak hl (by decide))
 |none=>
  obtain ⟨a',c',hv,h1,-⟩:=hs;simp only [aC] at hv
  obtain ⟨-,rfl,rfl⟩:=hv;have hc:c=0:=h0 rfl;obtain rfl:xs=[]:=aK (by omega);subst hc;simp only [bf]
  exact (Tryz.bytes_Clone_nil 0 0 w).mono fun e w' ⟨he,hw⟩=>⟨_,he,By.jv.nil _ _,hw▸aj _ _⟩
theorem zD{n:Int}(h:0<=n/\n<72057594037927936):(Lit.int .i64 n).wf=true:=by
 simp only [Lit.wf,IntKind.min,IntKind.max,IntKind.signed,IntKind.bits,decide_eq_true_iff,aD]
 simp
 omega
theorem wf_int{n:Int}(h: -9223372036854775808<=n/\n<=9223372036854775807):(Lit.int .i64 n).wf=true:=by
 simp only [Lit.wf,IntKind.min,IntKind.max,IntKind.signed,IntKind.bits,decide_eq_true_iff,aD]
 simp
 omega
theorem Ru{d:gB}(h:yj.ok d):jf d:=by
 obtain ⟨⟨h1,h2,h3⟩,-⟩:=h;exact ⟨zD (jN.1 h1),zD (jN.1 h2),zD (jN.1 h3)⟩
theorem Y8{t:fI}(h:AB.ok t):lJ t:=by
 obtain ⟨⟨h1,h2,⟨h3,h4⟩,h5,h6⟩,-⟩:=h;refine ⟨ak h3 (by decide),ak h5 (by decide),fun e he=> ?_,zD (jN.1 h1),zD (jN.1 h2),fun n hn=>zD (jN.1 (h4 n hn)),fun e he=> ?_⟩
 ·obtain ⟨⟨-,-,-,-,-,-,k1,-⟩,-⟩:=h6 e he
  exact ak k1 (by decide)
 ·obtain ⟨⟨k1,k2,k3,k4,k5,k6,k7,k8⟩,-⟩:=h6 e he
  exact ⟨zD (jN.1 k1),zD (jN.1 k4),wf_int k6,fun d hd=>Ru (k8 d hd),ak k2 (by decide),ak k3 (by decide),ak k5 (by decide)⟩
theorem Rw(w:World):kN w (.agg #[.int .i64 0,.int .i64 0,.slice none 0 0,.slice none 0 0]) default:=⟨_,_,rfl,fM.nil w,fM.nil w⟩
theorem nL{u:Value}{xs:List Int}{w:World}(hu:fM gL w u xs)(hn:xs.length<=1000000):Calls prog 89 #[u] w (vQ gL w xs):=by
 obtain ⟨a,cap,rfl,-,-,g0,h⟩:=hu.parts;have q22:∀ (w:World) (a:Option Addr) (n c n' c':Nat),(binOp .eql 25 (.slice a n c) (.slice none n' c')).run prog w= .ok (.bool a.isNone) w:=fun w a n c n' c'=>Lib.run_eql_slice_nil w _ _ a n c n' c' underlying25
 cases a with
 |none=>
  obtain rfl:=g0 rfl;obtain rfl:xs=[]:=aK (by have:=h.iY;omega);go_enter func89,ntmps89
  go_wp2_with fail
  go_ret
  exact ⟨_,rfl,gy.nil _ _,aj _ _⟩
 |some ad=>
  have HS:=zH (h.iB (.cells #[] 3));have HO:=zH (gy.empty (L:=gL) w w.heap.size (ah _));have HB:=zH (zB w (.cells #[] 3));have hz:w.heap.size<=(w.alloc (.cells #[] 3)).heap.size:=by simp
  have HZ:=zH hz;clear hu h g0 hz;go_enter func89,ntmps89
  go_wp2_with (at_builtin;refine gT gL rfl (.tmp 5) (.tmp 6) rfl w.heap.size rfl HO.o rfl HS.o (fun _ _ h=>h) (by simp;omega) HZ.o ?_)
  intro v' w2 ho' hgr _;have O3:=zH ho';have B3:=zH (HB.o.grown hgr HZ.o (fun j hj=>(HO.o.lt j hj).1));clear ho' hgr;go_wp2_with fail
  go_ret
  exact ⟨_,rfl,by simpa using O3.o,B3.o⟩
theorem one_txn{w:World}{dv ev:Value}{t:fI}(h1:fM gL w dv t.deps)(h2:fM jo w ev t.effs):fM gV (w.alloc (.cells #[.int .i64 t.node,.int .i64 t.seq,dv,ev] 82)) (.slice (some ⟨w.heap.size,0,none⟩) 1 1) [t]:=
 fM.one (L:=gV) (w:=w) (vs:=rA t dv ev) (x:=t) ⟨dv,ev,rfl,h1,h2⟩ #[.int .i64 t.node,.int .i64 t.seq,dv,ev] rfl
structure wE(g:Nat)(t:fI)(da:Option Addr)(dn dc:Nat)(ea:Option Addr)(en ec:Nat)(u:World):Prop where
 c:u.cell? ⟨g,0,none⟩=some (.int .i64 t.node)/\u.cell? ⟨g,1,none⟩=some (.int .i64 t.seq)/\u.cell? ⟨g,2,none⟩=some (.slice da dn dc)/\u.cell? ⟨g,3,none⟩=some (.slice ea en ec)
 d:fM gL u (.slice da dn dc) t.deps
 e:fM jo u (.slice ea en ec) t.effs
theorem wE.below{g:Nat}{t:fI}{da:Option Addr}{dn dc:Nat}{ea:Option Addr}{en ec:Nat}{u u':World}(k:wE g t da dn dc ea en ec u)(hb:Below u.heap.size u u'):wE g t da dn dc ea en ec u':=by
 have c:∀ {a:Addr} {v:Value},u.cell? a=some v ->u'.cell? a=some v:=fun g=>(hb.cell (aG u _ g)).trans g
 obtain ⟨h0,h1,h2,h3⟩:=k.c;exact ⟨⟨c h0,c h1,c h2,c h3⟩,k.d.below hb,k.e.below hb⟩
theorem wE.is{g:Nat}{t:fI}{da:Option Addr}{dn dc:Nat}{ea:Option Addr}{en ec:Nat}{u:World}(k:wE g t da dn dc ea en ec u):kN u (.agg #[.int .i64 t.node,.int .i64 t.seq,.slice da dn dc,.slice ea en ec]) t:=⟨_,_,rfl,k.d,k.e⟩
theorem kZ{w:World}{t:fI}{da:Option Addr}{dn dc:Nat}{ea:Option Addr}{en ec:Nat}(h1:fM gL w (.slice da dn dc) t.deps)(h2:fM jo w (.slice ea en ec) t.effs):wE w.heap.size t da dn dc ea en ec (w.alloc (.cells #[.int .i64 t.node,.int .i64 t.seq,.slice da dn dc,.slice ea en ec] 82)):=
 have hb:=zB w (.cells #[.int .i64 t.node,.int .i64 t.seq,.slice da dn dc,.slice ea en ec] 82)
 ⟨⟨by simp,by simp,by simp,by simp⟩,h1.below hb,h2.below hb⟩
theorem kN.parts{w:World}{v:Value}{t:fI}(h:kN w v t):∃ da dn dc ea en ec,v= .agg #[.int .i64 t.node,.int .i64 t.seq,.slice da dn dc,.slice ea en ec]/\fM gL w (.slice da dn dc) t.deps/\fM jo w (.slice ea en ec) t.effs:=by
 obtain ⟨dv,ev,rfl,h1,h2⟩:=h;obtain ⟨a1,c1,rfl,-,-,-,k1⟩:=h1.parts;obtain ⟨a2,c2,rfl,-,-,-,k2⟩:=h2.parts;exact ⟨_,_,_,_,_,_,rfl,k1,k2⟩
theorem fitTx_of{t:fI}(h:ny [t]=true)(hok:yD t):lJ t:=by
 unfold ny mK at h;simp only [List.all_cons,List.all_nil,Bool.and_true,aD,decide_eq_true_iff] at h
 obtain ⟨-,h1,h2⟩:=h;obtain ⟨g1,g2⟩:=qH.1 h2;exact ⟨by omega,by omega,fun e he=>by have:=(nK.1 (g2 e he)).2.2.2;omega,hok⟩
theorem Kr{t:fI}(h:yD t):∀ e∈t.effs,Nm.Plain.fits e.n:=fun e he=>i64_in (h.2.2.2 e he).2.2.1
theorem qh{n:Int}(h0: -1000<=n)(h1:n<=1073741824):(Lit.int .i64 n).wf=true:=by
 simp only [Lit.wf,IntKind.min,IntKind.max,IntKind.signed,IntKind.bits,decide_eq_true_iff,aD]
 simp
 omega
theorem V9{d:gB}(h:jX d=true):jf d:=by
 unfold jX at h;rw [decide_eq_true_iff] at h;exact ⟨qh (by omega) (by omega),qh (by omega) (by omega),qh (by omega) (by omega)⟩
theorem Vg{t:fI}(h:kC.ok t):lJ t:=by
 have hf:=ZX h;obtain ⟨h1,h2,h3,h4,h5⟩:=jq.1 h.2;have hr:0<=t.node/\t.node<=7/\1<=t.seq/\t.seq<=1073741824:=by
  unfold inRange at h1;exact bR h1
 obtain ⟨d1,d2⟩:=ug h2;have hq:∀ e∈t.effs,iD t.node t.seq e=true:=by
  unfold nN at h4;rw [aD,aR] at h4;exact h4.1
 refine ⟨by omega,by omega,fun e he=> ?_,qh (by omega) (by omega),qh (by omega) (by omega),fun n hn=>qh (by have:=d2 n hn;omega) (by have:=d2 n hn;omega),fun e he=> ?_⟩
 ·obtain ⟨-,-,-,-,-,-,-,k,-⟩:=sZ (hq e he)
  omega
 ·obtain ⟨k1,k2,k3,k4,k5,k6,k7,k8,k9⟩:=sZ (hq e he)
  have hn:=hf e he;refine ⟨qh (by omega) (by omega),qh (by omega) (by omega),?_,fun d hd=>V9 (k9 d hd),by omega,by omega,by omega⟩;unfold Nm.Plain.fits at hn;simp only [Lit.wf,IntKind.min,IntKind.max,IntKind.signed,IntKind.bits,decide_eq_true_iff,aD]
  simp
  omega
theorem uL{w:World}{v:Value}{xs:Bytes}(h:By.Seq w v xs):∃ a n c,v= .slice a n c/\n=xs.length/\n<=c/\c<=9223372036854775807/\By.Seq w (.slice a n c) xs:=by
 have h':=h;obtain ⟨a,c,rfl,h1,h2,-⟩:=h;exact ⟨a,_,c,rfl,rfl,h1,h2,h'⟩
end Go.Proofs.YtfgcodcablpdcaaGreat