import Derived.Test.YtfgcodcablpdcaaGreatOrBoxs
set_option linter.unusedVariables false
set_option maxRecDepth 100000
set_option maxHeartbeats 64000000
namespace Go.Proofs.YtfgcodcablpdcaaGreat
open Go.Proofs.Tryz
open Go.RowKit Plain
theorem ZF{hs ys:List Int}{H:List Nat}{x:Int}(h1:hs.Perm (nums H))(h2:hs.Perm (x::ys))(h3:∀ y∈hs,x<=y):∃ (p:Nat) (H':List Nat),x=(p:Int)/\H.Perm (p::H')/\ys.Perm (nums H')/\∀ j∈H',p<=j:=by
 have hx:x∈nums H:=h1.mem_iff.1 (h2.mem_iff.2 (by simp));obtain ⟨p,hp,rfl⟩:=List.mem_map.1 hx;have hP:=List.perm_cons_erase hp;refine ⟨p,H.erase p,rfl,hP,?_,fun j hj=> ?_⟩
 ·have e1:(nums H).Perm ((p:Int)::nums (H.erase p)):=hP.map _
  exact ((h2.symm.trans h1).trans e1).cons_inv
 ·have hm:(j:Int)∈hs:=h1.mem_iff.2 (List.mem_map.2 ⟨j,List.mem_of_mem_erase hj,rfl⟩)
  have:=h3 _ hm;omega
def NextTo(F:Nat ->Prop)(B:Nat)(w:World)(g:Nat)(l:List fI)(v:Ints)(gm:List Bool)(Bh:Int ->Int ->List Nat)(e:Ending)(w':World):Prop:=
 (∃ (p:Nat) (F':Nat ->Prop) (H':List Nat),e= .returned (.tuple #[.int .i64 (p:Int),.bool true])/\p<l.length/\jH l v gm (p::H') Bh []/\(∀ j∈H',p<=j)/\gY v (jr l p)=true/\Wt F' B w' g l v H' Bh/\Aq F w F' w')\/
 (∃ (F':Nat ->Prop),e= .returned (.tuple #[.int .i64 0,.bool false])/\jH l v gm [] Bh []/\Wt F' B w' g l v [] Bh/\Aq F w F' w')
theorem RI{F:Nat ->Prop}{B:Nat}{w:World}{g:Nat}{l:List fI}{v:Ints}{H:List Nat}{Bh:Int ->Int ->List Nat}{gm:List Bool}(h:Wt F B w g l v H Bh)(ow:jH l v gm H Bh [])(hl:l.length<=1000000)(hf:∀ t∈l,Dp t)(hvl:v.length<=1000000):
  Calls prog 204 #[.pointer (some ⟨g,0,none⟩)] w (NextTo F B w g l v gm Bh):=by
 have HW:=zH h;have OW:=zH ow;have HF:=zH hf;clear h ow hf;go_enter func204,ntmps204
 go_wp2_with fail
 go_loopg [4] H.length (fun gg _ wr=>∃ (F':Nat ->Prop) (H':List Nat),H'.length<=gg/\Aside (Wt F' B wr g l v H' Bh/\jH l v gm H' Bh []/\Aq F w F' wr))
 case atStart=>exact ⟨F,H,ah _,HW.o,OW.o,Aq.refl _ _⟩
 case round=>
  obtain ⟨F1,H1,hgg,hrel⟩:=hrel;obtain ⟨hW1,ow1,ft1⟩:=Aside.out hrel;have HT1:=zH ft1;have OW1:=zH ow1;obtain ⟨lv,hv,rv,m,V,hs,h1⟩:=hW1;have HW1:=zH h1;obtain ⟨ra,rc,rfl,-,-,-,-⟩:=h1.hp.row.parts;obtain ⟨⟨-,-,c2,-⟩,-,-⟩:=h1.hp.cell;have hlen:hs.length=H1.length:=by rw [h1.perm.length_eq,sj]
  obtain ⟨n,hn⟩:∃ n,hs.length=n:=⟨_,rfl⟩;rw [hn] at c2 hlen;have HN:=zH hn;have HLN:=zH hlen;have HLE:Hid (H1.length<=l.length):=zH (E9 ow1);have HGG:=zH hgg;clear hrel ow1 ft1 h1 hn
  cases n with
  |zero=>
   have hnil:H1=[]:=aK HLN.o.symm;subst hnil;clear hlen hgg;go_wp2_with (go_at_call 258;refine (CU _ _ _ _).mono ?_;rintro e w2 ⟨rfl,rfl⟩)
   go_ret2
   exact .inr ⟨F1,rfl,OW1.o,HW1.o.is,HT1.o⟩
  |succ n=>
   have KP:=zH (hpop_any HW1.o.hp HW1.o.heap n HN.o (by have:=HLE.o;omega));rw [HN.o] at KP;clear hlen hgg;have tA:=Xb;go_upto_region 3 with (first
    |(go_at_call 258;refine (CU _ _ _ _).mono ?_;rintro e w2 ⟨rfl,rfl⟩)
    |(go_at_call 259;refine KP.o.mono ?_;rintro e w2 ⟨x,rv2,ys,rfl,h2,i2,p2,q2,t2⟩;have R0:=zH (ZF HW1.o.perm p2 q2);have T2:=zH (cK h2 (cK i2 t2));clear h2 i2 p2 q2 t2 KP))
   obtain ⟨p,H2,rfl,r1,r2,r3⟩:=R0.o;have R:=zH (HW1.o.heaped T2.o.1 T2.o.2.1 r2 (by have Z:=T2.o.2.2;rw [<-HN.o] at Z;exact Z));have OW2:Hid (jH l v gm (p::H2) Bh []):=zH (OW1.o.perm r1.symm);have R3:=zH r3;have HL2:Hid (H2.length+1=H1.length):=zH (by have:=r1.length_eq;simp at this;omega);clear R0 r1 r2 r3 c2 tA;have hp:p<l.length:=(OW2.o.hH p (by simp)).1;have h2:=R.o.1;obtain ⟨lb,lo,lc,rfl,L1,L2,hc⟩:=xD h2.list h2.size (by omega);obtain ⟨da,dn,dc,ea,en,ec,TA,IT⟩:=hc p hp;have hft:=HF.o (jr l p) (by rw [kX hp];exact aU hp);obtain ⟨va,vc,rfl,-,-,-,SV⟩:=fM.parts (L:=gL) h2.Zb;have SVI:=zH (gW SV);have KR:=zH (fun u (hb:Below w2.heap.size w2 u)=>Fa (SVI.o.below hb) (IT.below hb) hvl hft.deps hft.small);obtain ⟨⟨b0,b1,-,-⟩,-,-⟩:=h2.hp.cell;have hgl:=h2.hp.lt;have HPP:=zH hp;obtain ⟨t,hT⟩:∃ t,t=jr l p:=⟨_,rfl⟩;rw [<-hT] at TA IT KR hft;have WZ:=zH hT;obtain ⟨ln,hln⟩:∃ n,n=l.length:=⟨_,rfl⟩;obtain ⟨vn,hvn⟩:∃ n,n=v.length:=⟨_,rfl⟩;rw [<-hln] at b0 L1 hp;rw [<-hvn] at b1 KR;have KE:Hid (∀ u,Below w2.heap.size w2 u ->Below w2.heap.size w2 u/\u.cell? ⟨g,0,none⟩=some (.slice (some ⟨lb,lo,none⟩) ln lc)/\u.cell? ⟨g,1,none⟩=some (.slice va vn vc)/\u.cell? ⟨lb,lo+p*4,none⟩=some (.int .i64 t.node)/\u.cell? ⟨lb,lo+p*4+1,none⟩=some (.int .i64 t.seq)/\u.cell? ⟨lb,lo+p*4+2,none⟩=some (.slice da dn dc)/\u.cell? ⟨lb,lo+p*4+3,none⟩=some (.slice ea en ec)):=zH (fun u hb=>by
    have TB:=TA.below hb TA.lt;exact ⟨hb,(hb.cell (p:=⟨g,0,none⟩) hgl).trans b0,(hb.cell (p:=⟨g,1,none⟩) hgl).trans b1,TB.c0,TB.c1,TB.c2,TB.c3⟩)
   have L3:(p:Int)<ln:=by omega
   have L4:(ln:Int)<=lc:=by omega
   have L5:(lc:Int)<=9223372036854775807:=by omega
   clear TA IT hc hT hln hvn SV hft L1 L2 b0 b1 h2;obtain ⟨r,hr⟩:∃ r,r=gY v t:=⟨_,rfl⟩;rw [<-hr] at KR;have HR:=zH hr;clear hr;refine wp_region_held_drew (S:=fun u'=>Below w2.heap.size w2 u'/\u'.cell? ⟨g,0,none⟩=some (.slice (some ⟨lb,lo,none⟩) ln lc)/\u'.cell? ⟨g,1,none⟩=some (.slice va vn vc)/\u'.cell? ⟨lb,lo+p*4,none⟩=some (.int .i64 t.node)/\u'.cell? ⟨lb,lo+p*4+1,none⟩=some (.int .i64 t.seq)/\u'.cell? ⟨lb,lo+p*4+2,none⟩=some (.slice da dn dc)/\u'.cell? ⟨lb,lo+p*4+3,none⟩=some (.slice ea en ec)) (by kernel_rfl) ?_ (fun hHeld=> ?_)
   ·(exact KE.o _ (aj _ _).drew)
   simp only [zS,aJ,Nat.reduceAdd]
   refine fJ 0 hHeld ?_;refine fJ 1 hHeld ?_;refine fJ 2 hHeld ?_;refine fJ 3 hHeld ?_;refine fJ 4 hHeld ?_;refine fJ 5 hHeld ?_;refine fJ 6 hHeld ?_;refine fJ 7 hHeld ?_;refine fJ 8 hHeld ?_;refine fJ 9 hHeld ?_;refine fJ 10 hHeld ?_;refine rd 11 fun K hK=> ?_
   go_simp
   refine (KR.o _ hHeld.1).mono ?_;rintro e s1 ⟨rfl,hb⟩;refine hK.out _ _ (KE.o _ (iM hHeld hb)) (fun hHeld=> ?_);clear hK K hb;refine wpAnyH_done (by kernel_rfl) ?_ _;have GZ:Hid (Below w2.heap.size w2 _):=zH hHeld.1;clear hHeld
   cases r
   ·go_wp2_with fail
    have hr2:¬ gY v (jr l p)=true:=by rw [<-WZ.o,<-HR.o];simp
    have hsm:Eh (jr l p):=by rw [kX HPP.o];exact (HF.o _ (aU HPP.o)).small
    go_roundg H2.length
    case measure=>have:=HL2.o;have:=HGG.o;omega
    case rel=>exact ⟨_,H2,ah _,(R.o.1.below GZ.o).is,OW2.o.drop hsm hr2,HT1.o.trans (R.o.2.trans (Aq.of GZ.o))⟩
   ·go_wp2_with fail
    go_ret2
    exact .inl ⟨p,_,H2,rfl,HPP.o,OW2.o,R3.o,by rw [<-WZ.o,<-HR.o],(R.o.1.below GZ.o).is,HT1.o.trans (R.o.2.trans (Aq.of GZ.o))⟩
theorem tu(v:Ints)(t:fI):(gZ v t).length<=max v.length 8:=by
 unfold gZ
 split
 ·rename_i h
  have h1:=(jl.1 h).1;unfold CQ;have:=qg (uP v t.node.toNat t.seq) (max v.length (t.node.toNat+1));omega
 ·unfold trim
  have:=qg (says v) v.length;omega
def HearTo(F:Nat ->Prop)(B:Nat)(w:World)(g:Nat)(l:List fI)(v:Ints)(gm:List Bool)(p:Nat)(e:Ending)(w':World):Prop:=
 e= .returned (.tuple #[])/\∃ F' H' Bh',Wt F' B w' g l (gZ v (jr l p)) H' Bh'/\jH l (gZ v (jr l p)) (gm.set p true) H' Bh' []/\Aq F w F' w'
theorem hear_any{F:Nat ->Prop}{B:Nat}{w:World}{g:Nat}{l:List fI}{v:Ints}{H:List Nat}{Bh:Int ->Int ->List Nat}{gm:List Bool}{p:Nat}{tv:Value}(h:Wt F B w g l v H Bh)(ow:jH l v gm (p::H) Bh [])(hr:gY v (jr l p)=true)(ht:kN w tv (jr l p))(hl:l.length<=1000000)(hf:∀ t∈l,Dp t)(hvl:v.length<=1000000):
  Calls prog 206 #[.pointer (some ⟨g,0,none⟩),tv] w (HearTo F B w g l v gm p):=by
 obtain ⟨lv,hv,rv,m,V,hs,h⟩:=h;obtain ⟨da,dn,dc,ea,en,ec,rfl,k1,k2⟩:=ht.parts;have hp:p<l.length:=(ow.hH p (by simp)).1;have hok:yD (jr l p):=(hf (jr l p) (by rw [kX hp];exact aU hp)).ok;have HOK:Hid (jf ⟨(jr l p).node,(jr l p).seq,0⟩):=zH ⟨hok.1,hok.2.1,wf0⟩;have OW1:=zH (fun Q hQ=>ow.take (Q:=Q) hr hQ);have HNL:Hid ((gZ v (jr l p)).length<=1000000):=zH (by have:=tu v (jr l p);omega);have KB:=zH (kZ k1 k2);have hb:=zB w (.cells #[.int .i64 (jr l p).node,.int .i64 (jr l p).seq,.slice da dn dc,.slice ea en ec] 82);have BX:=zH (aM w (.cells #[.int .i64 (jr l p).node,.int .i64 (jr l p).seq,.slice da dn dc,.slice ea en ec] 82));have HF:=zH hf;have HT:Hid (∀ x,x=jr l p ->gZ v x=gZ v (jr l p)):=zH (fun x e=>by rw [e]);obtain ⟨t,hT⟩:∃ t,t=jr l p:=⟨_,rfl⟩;rw [<-hT] at k1 k2 KB hb OW1 HNL HOK BX ⊢;have WZ:=zH hT;have HB:=zH hb;have HW:=zH (h.below hb);have HGL:=zH h.hp.lt;have HRR:=zH hr;clear h ow hr ht hf k1 k2 hb hok HT hT;go_enter func206,ntmps206
 go_upto_region 1 with fail
 generalize (w.alloc _)=wb at*;obtain ⟨va,vc,rfl,-,-,-,SV⟩:=fM.parts (L:=gL) HW.o.Zb;have SVI:=zH (gW SV);have KN:=zH (xw (SVI.o.below (aj _ _).drew) (KB.o.below (aj _ _).drew).is hvl);obtain ⟨⟨-,b1,-,-⟩,-,-⟩:=HW.o.hp.cell;obtain ⟨c0,c1,c2,c3⟩:=KB.o.c;obtain ⟨nv,hnv⟩:∃ x,x=gZ v t:=⟨_,rfl⟩;have HNV:=zH hnv;rw [<-hnv] at KN OW1 HNL;have HXS:Hid (∀ (w1:World),Below wb.heap.size wb w1 ->∀ x,(w1.setCell ⟨g,1,none⟩ x).heap[w.heap.size]? =some (.cells #[.int .i64 t.node,.int .i64 t.seq,.slice da dn dc,.slice ea en ec] 82 (0,0))):=zH (fun w1 W1 x=>(aN _ _ _ _ (by show w.heap.size≠g;have:=HGL.o;omega)).trans ((W1.block _ (by have:=(aH.1 BX.o).1;exact this)).trans BX.o));clear SV hnv
 go_cut [13] (fun s13 wx=>∃ hv',oD F B wx g l nv H Bh lv hv' rv m V hs/\Aq F w F wx/\wx.heap[w.heap.size]? =some (.cells #[.int .i64 t.node,.int .i64 t.seq,.slice da dn dc,.slice ea en ec] 82 (0,0)))
 case first=>
  go_region_law ((first
   |(go_simp;go_at_call 88;refine KN.o.mono ?_;rintro e w1 ⟨hv',rfl,ho,hb1⟩;have W1:Below wb.heap.size wb w1:=(aj _ _).drew.trans hb1;have HH:=zH (HW.o.heard W1 ho);have TB:=zH (HXS.o w1 W1);obtain ⟨⟨-,y1,-,-⟩,y2,-⟩:=(HW.o.below W1).hp.cell;obtain ⟨ya,yc,rfl,-,-,-,-⟩:=ho.parts)))
  all_goals (go_wp2_with fail;go_meet;exact ⟨_,HH.o.1,(Aq.of HB.o).trans HH.o.2,TB.o _⟩)
 case rest=>
  obtain ⟨hv',h1,ft1,bx⟩:=hcut;have H1:=zH h1;have FT1:=zH ft1;have HB0:=zH bx;have c0:wc.cell? ⟨w.heap.size,0,none⟩=some (.int .i64 t.node):=cell_of_row _ _ 0 _ _ _ bx;have c1:wc.cell? ⟨w.heap.size,1,none⟩=some (.int .i64 t.seq):=cell_of_row _ _ 1 _ _ _ bx;have c2:wc.cell? ⟨w.heap.size,2,none⟩=some (.slice da dn dc):=cell_of_row _ _ 2 _ _ _ bx;have c3:wc.cell? ⟨w.heap.size,3,none⟩=some (.slice ea en ec):=cell_of_row _ _ 3 _ _ _ bx;clear h1 ft1 bx KN SVI b1 HXS HW;go_upto_region 3 with (go_at_call 241;refine txdotP.mono ?_;rintro e w2 ⟨rfl,hb2⟩;have H2:=zH hb2;have GD:=zH (aM w2 (.cells #[.int .i64 t.node,.int .i64 t.seq,.int .i64 0] 77));have BD:Hid (Below wc.heap.size wc (w2.alloc (.cells #[.int .i64 t.node,.int .i64 t.seq,.int .i64 0] 77))):=zH (hb2.alloc hb2.size _);clear hb2)
  generalize hgd:w2.heap.size=gd at*;generalize (w2.alloc _)=wd at*;have H3:=zH (H1.o.below BD.o);have q0:wd.cell? ⟨gd,0,none⟩=some (.int .i64 t.node):=cell_of_row _ _ 0 _ _ _ GD.o;have q1:wd.cell? ⟨gd,1,none⟩=some (.int .i64 t.seq):=cell_of_row _ _ 1 _ _ _ GD.o;have q2:wd.cell? ⟨gd,2,none⟩=some (.int .i64 0):=cell_of_row _ _ 2 _ _ _ GD.o;clear c0 c1 c2 c3 hgd H1;obtain ⟨va,vc,rfl,-,-,-,SV⟩:=fM.parts (L:=gL) H3.o.Zb;have SVI:=zH (gW SV);have KH:=zH (fun u (hb:Below wd.heap.size wd u)=>tN (SVI.o.below hb) t.node t.seq 0);obtain ⟨⟨-,b1,-,-⟩,-,-⟩:=H3.o.hp.cell;have hgl:=H3.o.hp.lt;have hdl:gd<wd.heap.size:=(aH.1 GD.o).1;obtain ⟨vn,hvn⟩:∃ n,n=nv.length:=⟨_,rfl⟩;rw [<-hvn] at b1 KH;obtain ⟨r,hr⟩:∃ r,r=(decide (1<=t.seq)&&decide (t.seq<=iF nv t.node)):=⟨_,rfl⟩;rw [<-hr] at KH;have HR:Hid (r=true↔r9 nv t.node t.seq):=zH (by rw [hr,aD,decide_eq_true_iff,decide_eq_true_iff];exact Iff.rfl);have KE:Hid (∀ u,Below wd.heap.size wd u ->Below wd.heap.size wd u/\u.cell? ⟨g,1,none⟩=some (.slice va vn vc)/\u.cell? ⟨gd,0,none⟩=some (.int .i64 t.node)/\u.cell? ⟨gd,1,none⟩=some (.int .i64 t.seq)/\u.cell? ⟨gd,2,none⟩=some (.int .i64 0)):=zH (fun u hb=>⟨hb,(hb.cell (p:=⟨g,1,none⟩) hgl).trans b1,(hb.cell (p:=⟨gd,0,none⟩) hdl).trans q0,(hb.cell (p:=⟨gd,1,none⟩) hdl).trans q1,(hb.cell (p:=⟨gd,2,none⟩) hdl).trans q2⟩);clear SV SVI b1 hgl hdl hvn hr q0 q1 q2;refine wp_region_held_drew (S:=fun u'=>Below wd.heap.size wd u'/\u'.cell? ⟨g,1,none⟩=some (.slice va vn vc)/\u'.cell? ⟨gd,0,none⟩=some (.int .i64 t.node)/\u'.cell? ⟨gd,1,none⟩=some (.int .i64 t.seq)/\u'.cell? ⟨gd,2,none⟩=some (.int .i64 0)) (by kernel_rfl) ?_ (fun hHeld=> ?_)
  ·(exact KE.o _ (aj _ _).drew)
  simp only [zS,aJ,Nat.reduceAdd]
  refine fJ 0 hHeld ?_;refine fJ 1 hHeld ?_;refine fJ 2 hHeld ?_;refine fJ 3 hHeld ?_;refine fJ 4 hHeld ?_;refine rd 5 fun K hK=> ?_
  go_simp
  refine (KH.o _ hHeld.1).mono ?_;rintro e s1 ⟨rfl,hb⟩;refine hK.out _ _ (KE.o _ (iM hHeld hb)) (fun hHeld=> ?_);clear hK K hb;refine fJ 6 hHeld ?_;refine wpAnyH_done (by kernel_rfl) ?_ _;have GZ:Hid (Below wd.heap.size wd _):=zH hHeld.1;have FZ:Hid (Aq F w F _):=zH (FT1.o.trans ((Aq.of BD.o).trans (Aq.of hHeld.1)));have H4:=zH (H3.o.below hHeld.1);have D4:=zH ((hHeld.1.block gd (aH.1 GD.o).1).trans GD.o);clear hHeld KH KE
  cases r
  ·have hno:¬ r9 nv t.node t.seq:=fun e=>by have:=HR.o.2 e;cases this
   have OW2:=zH (OW1.o [] (.inr ⟨hno,rfl⟩));clear hno;go_wp2_with fail
   (try simp only [Exit.inBlock,Exit.then])
   refine bodyPost_ret (results_none rfl _ _ _) rfl ?_;refine ⟨rfl,F,H,Bh,?_,?_,FZ.o⟩
   ·rw [<-WZ.o,<-HNV.o];exact H4.o.is
   ·rw [<-WZ.o,<-HNV.o];exact OW2.o
  ·have hyes:r9 nv t.node t.seq:=HR.o.1 rfl
   have HY:=zH hyes;have OW2:=zH (OW1.o (Bh t.node t.seq) (.inl ⟨hyes,rfl⟩));clear hyes;have HD0:=HOK.o;obtain ⟨ra,rc,hV,R1,R2,hro,-⟩:=(H4.o.rows ⟨t.node,t.seq,0⟩).parts;have hrow:rowOf Bh ⟨t.node,t.seq,0⟩=nums (Bh t.node t.seq):=by unfold rowOf;rw [if_pos rfl]
   obtain ⟨Q,hQ⟩:∃ Q,Q=Bh t.node t.seq:=⟨_,rfl⟩;rw [<-hQ] at hrow OW2;rw [hrow] at hV R1;have LK:Hid (∀ k,(Instr.lookup 212 (.map (some m)) (.agg #[.int .i64 t.node,.int .i64 t.seq,.int .i64 0]) false).run prog (s1.drewN k)= .ok (V ⟨t.node,t.seq,0⟩) (s1.drewN k)):=zH (fun k=>MapAt.look (w:=s1.drewN k) (d:=⟨t.node,t.seq,0⟩) (H4.o.map.below (below_drewN (aj _ _) k)) HD0);rw [hV,sj] at LK;obtain ⟨n,hn⟩:∃ n,n=Q.length:=⟨_,rfl⟩;rw [<-hn] at LK;have lk:=LK.o;have HV0:Hid (V ⟨t.node,t.seq,0⟩= .slice ra n rc):=zH (by rw [hV,sj,hn]);have HS0:Hid (gQ s1 (.slice ra n rc) (nums Q)):=zH (by have:=hro.seq;rw [hrow] at this;rw [<-HV0.o,hV];exact this);have Iq:=zH hn;have HND:Hid (n<=1000000):=zH (by have h1:=Bo (dw.1 OW2.o.nd).2.1 (fun j hj=>(OW2.o.hQ j hj).1);omega);have R3:(n:Int)<=rc:=by rw [sj,<-hn] at R1;omega
   have R4:(rc:Int)<=9223372036854775807:=by have:maxLen=9223372036854775807:=rfl;omega
   have lk0:=lk 0;obtain ⟨⟨-,-,-,b3⟩,-,-⟩:=H4.o.hp.cell;have q0:s1.cell? ⟨gd,0,none⟩=some (.int .i64 t.node):=cell_of_row _ _ 0 _ _ _ D4.o;have q1:s1.cell? ⟨gd,1,none⟩=some (.int .i64 t.seq):=cell_of_row _ _ 1 _ _ _ D4.o;have q2:s1.cell? ⟨gd,2,none⟩=some (.int .i64 0):=cell_of_row _ _ 2 _ _ _ D4.o;clear hV R1 R2 hro hrow hQ hn HD0 LK;go_upto_region 4 with fail
   go_quiet (fail)
   clear b3 q0 q1 q2 lk lk0;have H5:=zH (H4.o.below (below_drewN (aj _ _) nq));have F5:=zH (FZ.o.trans (Aq.of (F:=F) (below_drewN (aj _ _) nq)));have S5:=zH (HS0.o.drawn nq);generalize s1.drewN nq=s2 at*;go_wp2_with fail
   go_loopw [32] (fun i wr=>∃ (k:Nat),k<=n/\i= .int .i64 k/\Aside (∃ F' H' Bh' rv' V' hs',oD F' B wr g l nv H' Bh' lv (.slice va nv.length vc) rv' m V' hs'/\jH l nv (gm.set p true) H' Bh' (Q.drop k)/\Aq F w F' wr/\mR nv V s2 V' wr)) (fun i _=>n-(intOf i).toNat)
   case atStart=>exact ⟨0,aL _,rfl,F,H,Bh,rv,V,hs,H5.o,by rw [List.drop_zero];exact OW2.o,F5.o,mR.refl _ _ _⟩
   case round=>
    obtain ⟨k,hk,rfl,hrel⟩:=hrel;obtain ⟨F6,H6,B6,rv6,V6,hs6,w6,o6,f6,y6⟩:=Aside.out hrel;have W6:=zH w6;have O6:=zH o6;have T6:=zH f6;have Y6:=zH y6;clear hrel w6 o6 f6 y6
    by_cases hlt:k<n
    ·have hqk:k<Q.length:=by rw [<-Iq.o];exact hlt
     obtain ⟨rb,ro,cap,hsl,-,-,-,hcell⟩:=S5.o.spot (by rw [sj];omega);simp only [aC] at hsl
     obtain ⟨rfl,-,rfl⟩:=hsl;have hst:=(Y6.o ⟨t.node,t.seq,0⟩ HY.o).2 rb (by rw [HV0.o];rfl);have ce:wr.cell? ⟨rb,ro+k,none⟩=some (.int .i64 (Q[k]:Int)):=by
      rw [aQ (a:=⟨rb,ro+k,none⟩) hst,hcell k (by rw [sj];exact hqk)];unfold nums;simp [List.getD,hqk]
     have KW:=zH (Ry (p:=Q[k]) (Q:=Q.drop (k+1)) W6.o (by have:=O6.o;rw [fH hqk] at this;exact this) hl HF.o HNL.o);have hk1:(k:Int)<n:=by omega
     generalize Q[k]=qk at*;clear hst hcell hqk;go_wp2_with (go_at_call 203;refine KW.o.mono ?_;rintro e w7 ⟨rfl,F7,H7,B7,rv7,V7,hs7,w7',o7,f7,y7⟩;have R7:=zH (cK w7' (cK o7 (cK (T6.o.trans f7) (Y6.o.trans y7))));clear w7' o7 f7 y7 KW)
     go_roundw
     case rel=>exact ⟨k+1,by omega,by go_num,F7,H7,B7,rv7,V7,hs7,R7.o⟩
     case measure=>simp [intOf];omega
    ·obtain rfl:k=n:=by omega
     go_wp2_with fail
     go_end0
     refine ⟨rfl,F6,H6,B6,?_,?_,T6.o⟩
     ·rw [<-WZ.o,<-HNV.o];exact W6.o.is
     ·rw [<-WZ.o,<-HNV.o];have:=O6.o;rw [Iq.o,List.drop_length] at this;exact this
end Go.Proofs.YtfgcodcablpdcaaGreat