import Derived.Test.YtfgcodcablpdcaaGreatStItems
set_option linter.unusedVariables false
namespace Go.Proofs.YtfgcodcablpdcaaGreat
open Go.Proofs.Tryz
open Go.RowKit Plain
variable {α:Type} [Inhabited α] {L:El α}
theorem getB{xs:List α}{j:Nat}(hj:j<xs.length):xs.toArray[j]! =xs.getD j default:=by
 simp [getElem!_pos,hj,List.getD]
theorem J3{enc:α ->List Value}(hE:∀ {P w vs x},L.R P w vs x ->vs=enc x)(hk:∀ x,(enc x).length=L.k){B:Nat}{w:World}{g n cap:Nat}{xs:List α}(h:gy L B w (.slice (some ⟨g,0,none⟩) n cap) xs):Sort.HoldsK enc L.k w g 0 xs.toArray:=by
 have hn:=h.seq.iY.1;subst hn;obtain ⟨vals,ho,hr⟩:=h;intro j hj;rw [Sort.size_flatK,eB] at hj;rw [aJ];refine ⟨?_,dh ho j⟩;rw [bI ho j hj,Sort.get_flatK _ _ _ _ (by rw [eB];exact hj)];have hp:=L.pos;have hq:j/L.k<xs.length:=by rw [Nat.div_lt_iff_lt_mul hp];exact hj
 have hm:j%L.k<L.k:=Nat.mod_lt j hp;have e:j/L.k*L.k+j%L.k=j:=by rw [Nat.mul_comm];exact Nat.div_add_mod j L.k
 have hR:=hE (hr.2 (j/L.k) _ (au hq));have h1:=lH (k:=L.k) vals (j/L.k) (j%L.k) hm;rw [hR,e] at h1;rw [<-h1,getB hq];have e2:xs.getD (j/L.k) default=xs[j/L.k]:=by simp [List.getD,List.getElem?_eq_getElem hq]
 rw [e2];have hl:j%L.k<(enc xs[j/L.k]).length:=by rw [hk];exact hm
 rw [au hl];simp [getElem!_pos,hl]
theorem Nw{enc:α ->List Value}(hE:∀ {P w vs x},vs=enc x ->L.R P w vs x)(hk:∀ x,(enc x).length=L.k){w:World}{g off cap:Nat}{xs:List α}(h:Sort.HoldsK enc L.k w g off xs.toArray)(hc:xs.length<=cap)(hm:cap<=maxLen){P:Nat ->Prop}(hP:P g):Sq L P w (.slice (some ⟨g,off,none⟩) xs.length cap) xs:=by
 have hs:(Sort.flatK enc L.k xs.toArray).toList.length=xs.length*L.k:=by rw [eH,Sort.size_flatK,eB]
 have hat:∀ i,i<xs.length*L.k ->(Sort.flatK enc L.k xs.toArray).toList[i]? =some (Sort.flatK enc L.k xs.toArray)[i]! :=by
  intro i hi;have hi2:i<(Sort.flatK enc L.k xs.toArray).size:=by rw [Sort.size_flatK,eB];exact hi
  rw [cB,Array.getElem?_eq_getElem hi2,getElem!_pos _ i hi2]
 refine ⟨_,cap,(Sort.flatK enc L.k xs.toArray).toList,rfl,hc,hm,(by simp),⟨hs,fun j x hj=>hE ?_⟩,fun _=>⟨g,off,rfl,hP,fun i u hi=> ?_⟩⟩
 ·have hjl:=(aP.1 hj).1
  have hle:(j+1)*L.k<=xs.length*L.k:=bN L.k hjl;have he:(j+1)*L.k=j*L.k+L.k:=Nat.succ_mul j L.k;refine eF fun i=> ?_
  by_cases hi:i<L.k
  ·rw [lH _ _ _ hi,hat _ (by omega),Sort.get_flatK _ _ _ _ (by rw [eB];omega)]
   have e1:(j*L.k+i)/L.k=j:=by rw [Nat.mul_comm,Nat.mul_add_div L.pos,Nat.div_eq_of_lt hi,fF]
   have e2:(j*L.k+i)%L.k=i:=by rw [Nat.mul_comm,Nat.mul_add_mod,Nat.mod_eq_of_lt hi]
   rw [e1,e2,getB hjl];have e3:xs.getD j default=x:=by simp [List.getD,hj]
   rw [e3];have hl:i<(enc x).length:=by rw [hk];exact hi
   rw [au hl];simp [getElem!_pos,hl]
  ·rw [aW (by unfold pt;rw [aO];omega),aW (by rw [hk];omega)]
 ·have hil:i<xs.length*L.k:=by rw [<-hs];exact (aP.1 hi).1
  rw [hat i hil] at hi;have:=(h i (by rw [Sort.size_flatK,eB];exact hil)).1;rw [this];exact hi
theorem QI{B:Nat}{w u:World}{enc:α ->List Value}{k g off:Nat}{d:Array α}(hb:Below B w u)(hB:B<=u.heap.size)(hg:B<=g)(n:Nat)(os:Array Obj):Below B w (Go.Proofs.sortWorldK enc k u g off n d os):=by
 refine ⟨hb.os,hb.tape,hb.output,?_,fun j hj=> ?_⟩
 ·have:=hb.size
  show w.heap.size<=(Sort.grow (Sort.putRow id (Sort.ahead u n) g off (Sort.flatK enc k d)) os).heap.size
  rw [Sort.size_grow,Sort.size_putRow]
  show w.heap.size<=u.heap.size+os.size
  omega
 ·have hlt:j<u.heap.size:=by omega
  show (Sort.grow (Sort.putRow id (Sort.ahead u n) g off (Sort.flatK enc k d)) os).heap[j]? =w.heap[j]?
  rw [Sort.heap_grow_old _ _ (by rw [Sort.size_putRow];exact hlt)];refine Eq.trans ?_ (hb.block j hj)
  show ((Sort.ahead u n).heap.modify g _)[j]? =u.heap[j]?
  rw [Array.getElem?_modify,if_neg (by omega)]
  rfl
theorem UH{u:World}{enc:α ->List Value}{k g off:Nat}{d:Array α}(n:Nat)(os:Array Obj):u.heap.size<=(Go.Proofs.sortWorldK enc k u g off n d os).heap.size:=by
 show u.heap.size<=(Sort.grow (Sort.putRow id (Sort.ahead u n) g off (Sort.flatK enc k d)) os).heap.size
 rw [Sort.size_grow,Sort.size_putRow]
 show u.heap.size<=u.heap.size+os.size
 omega
theorem J4(z:Array Value)(m j:Nat)(hj:j<m)(hz:0<z.size):(madeCells z m).toList[j]? =z.toList[j%z.size]? :=by
 have hm:j%z.size<z.size:=Nat.mod_lt j hz;unfold madeCells;rw [cB,cB];simp [hj,hm]
theorem Yn{α:Type}(L:El α)(z:α)(hzero:∀ P w,L.R P w L.zero.cells.toList z)(P:Nat ->Prop)(w:World)(n:Nat):Rows L P w (madeCells L.zero.cells (n*L.k)).toList (List.replicate n z):=by
 have hz:0<L.zero.cells.size:=by rw [L.tV];exact L.pos
 refine ⟨by rw [eH,size_madeCells,bW],fun j x hj=> ?_⟩;have hjn:j<n:=by
  have:=(aP.1 hj).1
  rwa [bW] at this
 have hx:x=z:=by
  rw [List.getElem?_replicate,if_pos hjn] at hj;exact (dN hj).symm
 subst hx;have e:pt L.k (madeCells L.zero.cells (n*L.k)).toList j=L.zero.cells.toList:=by
  apply eF
  intro i
  by_cases hi:i<L.k
  ·rw [lH _ _ _ hi]
   have hle:(j+1)*L.k<=n*L.k:=bN L.k hjn;have hs:(j+1)*L.k=j*L.k+L.k:=Nat.succ_mul j L.k;rw [J4 _ _ _ (by omega) hz,L.tV,Nat.mul_add_mod_self_right,Nat.mod_eq_of_lt hi]
  ·rw [aW (by unfold pt;rw [aO];omega),aW (by rw [eH,L.tV];omega)]
 rw [e];exact hzero P w
theorem yE{α:Type}{w:World}{ops:Array Oper}{rest:List Oper}{o:Oper}{a:Act}{Q:Exit ->Act ->World ->Prop}(L:El α)(z:α)(hzero:∀ P w,L.R P w L.zero.cells.toList z)
  (hg:o.guard=none) (l:Operand) (ho:o.op=Op.makeSlice L.S l l) (n:Nat) (hl:a.eval l= .int .i64 n) (hn:n<=1000000)
  (h:∀ w',gy L w.heap.size w' (.slice (some ⟨w.heap.size,0,none⟩) n n) (List.replicate n z) ->Below w.heap.size w w' ->w'.heap.size=w.heap.size+1 ->wpList prog ops Q rest (a.put o.dst (.slice (some ⟨w.heap.size,0,none⟩) n n)) w'):
  wpList prog ops Q (o::rest) a w:=by
 obtain ⟨i0,hi,hz0,hz1,hz2⟩:=Co L;have hsm:=L.small;have hby:(i0.bytes:Int)*(n:Int)<=281474976710656:=by
  have h1:i0.bytes*n<=1024*1000000:=Nat.mul_le_mul (by rw [hz2];exact hsm) hn;have h2:((i0.bytes*n:Nat):Int)<=281474976710656:=by omega
  rwa [Int.natCast_mul] at h2
 have hrun:=run_make (P:=prog) w L.S L.E i0 L.zero L.und hi hz0 .i64 .i64 n n (by omega) (dD _) hby (by omega);simp only [Int.toNat_natCast,hz1] at hrun
 refine wpList_plain hg fun K hK'=> ?_
 unfold Oper.wp;simp [execOp,ho,hl,hrun,Result.andThen]
 refine hK' _ _ (h _ ?_ ((aj _ _).alloc (ah _) _) (by simp));have hr:=eG (base:=w.heap.size) (e:=L.E) (size:=L.k) w (madeCells L.zero.cells (n*L.k)) n (ah _) (by unfold maxLen;omega) (by rw [size_madeCells]);exact ⟨_,by rw [bW];exact hr,Yn L z hzero _ _ n⟩
end Go.Proofs.YtfgcodcablpdcaaGreat
set_option maxRecDepth 100000
set_option maxHeartbeats 64000000
namespace Go.Proofs.YtfgcodcablpdcaaGreat
open Go.Proofs.Tryz
open Go.RowKit Plain
theorem vU(x y:fK):ltOf DC x y=yO x y:=icmp_dec x y
theorem swo_icmp:Sort.SWO (ltOf DC) where
 irrefl x:=by rw [vU];exact aF (jg.irrefl x)
 trans x y z h g:=by
  rw [vU] at*;exact aI (jg.trans (bR h) (bR g))
 ntrans x y z h g:=by
  rw [vU] at*;refine aF fun k=> ?_
  have h':=of_decide_eq_false h;have g':=of_decide_eq_false g
  by_cases e:x=y
  ·subst e;exact g' k
  ·exact g' (jg.trans (jg.total h' e) k)
theorem Yo:∀ x y,ltOf DC x y=false ->ltOf DC y x=false ->x=y:=fun x y h g=>by
 rw [vU] at*;exact jg.conn (of_decide_eq_false h) (of_decide_eq_false g)
theorem Yp:∀ args w,(callFunc 149 args).run prog w= .ok (.enter 149 args) w:=enters_of func149 (by kernel_rfl) rfl
theorem cmpLaysI(blk off size:Nat)(w:World):CmpLays prog 149 #[] mG 8 DC blk off size w:=fun _ _ _ _ x y=>Nv x y _
theorem isort_eq(xs:List fK):(xs.toArray.toList.mergeSort fun x y=> !(ltOf DC) y x).toArray=(rU xs).toArray:=by
 have e:(fun x y:fK=> !(ltOf DC) y x)=fun x y=> !yO y x:=by
  funext x y
  rw [vU]
 rw [e]
 rfl
theorem UJ{B:Nat}{v:Value}{xs:List fK}{w0 w:World}(hv:gy gG B w v xs)(hb:Below B w0 w)(hB:B<=w.heap.size)(hx:xs.length<=1000000):
  Calls prog 148 #[v,.func (.func 149) #[] #[]] w fun e w'=>e= .returned (.tuple #[])/\Below B w0 w'/\B<=w'.heap.size/\Sq gG (fun b=>B<=b/\b<w'.heap.size) w' v (rU xs):=by
 have hl:=Lf xs;have hlt:=hv.lt;obtain ⟨a,cap,rfl,h1,h2,hv',h0⟩:=hv.parts
 cases a with
 |none=>
  obtain rfl:=h0 rfl;obtain rfl:xs=[]:=aK (by omega);refine (AnyF.slices_SortFunc_none Tryz.sortItem none 0 _ w).mono fun e w' ⟨he,hw⟩=> ?_
  subst hw;refine ⟨he,hb,hB,?_⟩;have e:rU []=[]:=aK hl;rw [e];exact (gy.nil B w').new jR
 |some ad=>
  obtain ⟨g,c,e⟩:∃ g c,(Value.slice (some ad) xs.length cap)= .slice (some ⟨g,0,none⟩) xs.length c:=by
   obtain ⟨vals,ho,-⟩:=hv'
   rcases ho.2 with ⟨e,-⟩|⟨g,c,cur,e,-⟩
   ·cases e
   ·simp only [aC,bS] at e
    exact ⟨g,c,by rw [e.1,e.2.2]⟩
  rw [e] at hv hlt hv' ⊢;obtain ⟨hg1,hg2⟩:=hlt g rfl;have hd:=hv.seq.iY;have hm:maxLen=9223372036854775807:=rfl;have hH:=J3 (L:=gG) (enc:=mG) (fun h=>h) (fun _=>rfl) hv;refine (AnyQ.slices_SortFunc_total Tryz.sortItem 8 Tryz.isAgg79 Tryz.sizeOf79 mG (fun _=>rfl) (fun x=>oneIt rfl) DC swo_icmp 149 #[] g 0 c xs.toArray w Yp (cmpLaysI g 0 _ w) hH hg2 (by simp;omega) Yo).mono fun e w' ⟨he,n,os,hw⟩=> ?_
  rw [isort_eq] at hw;have hs:w.heap.size<=w'.heap.size:=by rw [hw];exact UH n os
  have hH2:Sort.HoldsK mG 8 w' g 0 (rU xs).toArray:=by
   rw [hw];exact Go.Proofs.holdsK_sortWorldK mG 8 w g 0 n xs.toArray _ os hg2 hH (by simp [hl])
  refine ⟨he,by rw [hw];exact QI hb hB hg1 n os,by omega,?_⟩;have:=Nw (L:=gG) (enc:=mG) (fun h=>h) (fun _=>rfl) hH2 (cap:=c) (by rw [hl];omega) (by omega) (P:=fun b=>B<=b/\b<w'.heap.size) ⟨hg1,by omega⟩;rw [hl] at this;exact this
open Go.Maps
theorem UK:∀ args w,(callFunc 151 args).run prog w= .ok (.enter 151 args) w:=enters_of func151 (by kernel_rfl) rfl
def uV(sb m:Nat)(W:World)(ds:List gB):Prop:=W.cell? ⟨sb,0,none⟩=some (.map (some m))/\kW W m ds
theorem uV.below{sb m B:Nat}{W W':World}{ds:List gB}(h:uV sb m W ds)(hb:Below B W W')(h1:sb<B)(h2:m<B):uV sb m W' ds:=
 ⟨(hb.cell (p:=⟨sb,0,none⟩) h1).trans h.1,h.2.below hb h2⟩
theorem Yq(x:fK)(hx:jf x.dot)(sb m:Nat)(hne:sb≠m)(ds:List gB)(hl:ds.length<=1000000)(W:World)(hI:uV sb m W ds):
  Calls prog 151 (#[Ym x]++#[.pointer (some ⟨sb,0,none⟩)]) W fun e W'=>e= .returned (.bool (!mH ds x.dot))/\uV sb m W' (ds++[x.dot])/\W.grownBy W' (some m):=by
 show Calls prog 151 #[.agg #[.string (bt x.key),.string (bt x.field),.int .i64 x.kind,.string (bt x.elem),.int .i64 x.n,.int .i64 x.dot.node,.int .i64 x.dot.seq,.int .i64 x.dot.pos],.pointer (some ⟨sb,0,none⟩)] W _
 obtain ⟨hc,D,n,hn,ho,hh⟩:=hI;have hkey:keyOf prog 77 (.agg #[.int .i64 x.dot.node,.int .i64 x.dot.seq,.int .i64 x.dot.pos])=some (kd x.dot):=kS hx;have KY:=zH hkey;have hD:=zH ho.isMap;have HH:=zH hh;have hhx:=zH (hh x.dot hx);have HX:=zH hx;have hlt:=aG W ⟨sb,0,none⟩ hc;have hb1:=zB W (.cells #[.string (bt x.key),.string (bt x.field),.int .i64 x.kind,.string (bt x.elem),.int .i64 x.n,.int .i64 x.dot.node,.int .i64 x.dot.seq,.int .i64 x.dot.pos] 79);have HO1:=zH (ho.alloc (.cells #[.string (bt x.key),.string (bt x.field),.int .i64 x.kind,.string (bt x.elem),.int .i64 x.n,.int .i64 x.dot.node,.int .i64 x.dot.seq,.int .i64 x.dot.pos] 79));have hc1:=(hb1.cell (p:=⟨sb,0,none⟩) hlt).trans hc;have HB1:=zH hb1;have IB:Hid (jS (W.alloc (.cells #[.string (bt x.key),.string (bt x.field),.int .i64 x.kind,.string (bt x.elem),.int .i64 x.n,.int .i64 x.dot.node,.int .i64 x.dot.seq,.int .i64 x.dot.pos] 79)) W.heap.size 0 x):=zH ⟨by simp,by simp,by simp,by simp,by simp,by simp,by simp,by simp⟩;have HL:=zH hlt;have HN:=zH hn;have hnm:n<maxLen:=by unfold maxLen;omega
 have HM:=zH hnm;have HHX:=zH (hh x.dot hx);clear hh ho hx hkey hlt hb1 hn hnm hhx;rw [<-HHX.o];go_enter func151,ntmps151
 go_upto_region 1 with fail
 generalize (W.alloc _)=wb at*;obtain ⟨c0,c1,c2,c3,c4,c5,c6,c7⟩:=IB.o;simp only [aJ] at c1 c2 c3 c4 c5 c6 c7
 have HO2:=zH (HO1.o.alloc (.cells #[] 176));have HB2:=zH (HB1.o.alloc HB1.o.size (.cells #[] 176));have IB2:=zH (IB.o.below (zB wb (.cells #[] 176)) IB.o.lt);have hc2:(wb.alloc (.cells #[] 176)).cell? ⟨sb,0,none⟩=some (.map (some m)):=(HB2.o.cell (p:=⟨sb,0,none⟩) HL.o).trans hc;obtain ⟨d0,d1,d2,d3,d4,d5,d6,d7⟩:=IB2.o;simp only [aJ] at d1 d2 d3 d4 d5 d6 d7
 have HC2:=zH hc2;go_wp2_with (first
  |(at_lookup;refine wpList_lookup_own_unit _ rfl _ _ 174 rfl 77 176 nM underlying174 (Io _) m n D rfl HO1.o _ _ rfl KY.o ?_)
  |(at_mapUpdate;refine wpList_mapUpdate_own _ rfl _ _ _ 174 rfl 77 176 nM underlying174 unitElem m n D rfl HO2.o HM.o _ _ _ rfl rfl KY.o (.agg []) [] unitElem_mk ?_))
 intro w1 ho1 hg1;have O1:=zH (kW.put HX.o HN.o hD.o HH.o ho1);have C1:=zH (hg1.cell HC2.o (fun e=>hne (dN e)));have G1:=zH (j5 (tQ (row:=some m) HB2.o) hg1 (fun j hj=> .inl hj));clear ho1 hg1;go_wp2_with fail
 go_ret
 exact ⟨rfl,⟨C1.o,O1.o⟩,G1.o⟩
theorem UL{w2:World}{B:Nat}{v:Value}{xs:List fK}(h:Sq gG (fun b=>B<=b/\b<w2.heap.size) w2 v xs):
  Old gG (some w2.heap.size) ((w2.alloc (.map #[] 0)).alloc (.cells #[.map (some w2.heap.size)] 174)).heap.size ((w2.alloc (.map #[] 0)).alloc (.cells #[.map (some w2.heap.size)] 174)) v xs:=by
 have hb:Below w2.heap.size w2 ((w2.alloc (.map #[] 0)).alloc (.cells #[.map (some w2.heap.size)] 174)):=((aj _ _).alloc (ah _) _).alloc (by simp) _;exact (Sq.agree h fun b hlt=>hb.block b hlt.2).mono fun b hlt=>⟨by have:=hb.size;omega,fun e=>by have:=hlt.2;cases e;omega⟩
theorem QJ(w2:World):uV (w2.heap.size+1) w2.heap.size ((w2.alloc (.map #[] 0)).alloc (.cells #[.map (some w2.heap.size)] 174)) []:=
 ⟨by simp,(kW.made w2).alloc _⟩
theorem QK(w2:World):((w2.alloc (.map #[] 0)).alloc (.cells #[.map (some w2.heap.size)] 174)).heap.size=w2.heap.size+2:=by simp
theorem vS{u:Value}{xs:List fK}{w:World}(hu:fM gG w u xs)(hn:xs.length<=1000000)(hd:∀ x∈xs,jf x.dot):Calls prog 79 #[u] w (vQ gG w (iG xs)):=by
 have KC:=wZ hu hn;have HL:=Lf xs;have HW:=zH (norm_way xs);have HD:Hid (∀ k,k<(rU xs).length ->jf ((rU xs).getD k default).dot):=zH (fun k hk=>hd _ (zQ.1 (mem_def hk)));obtain ⟨a,cap,rfl,-⟩:=hu.parts;have hmm:=@run_makeMap prog;obtain ⟨n,hN⟩:∃ n,xs.length=n:=⟨_,rfl⟩;rw [hN] at HL hn KC ⊢;have LN:=zH hN;have LS:=zH HL;clear hu hd hN HL;go_enter func79,ntmps79
 go_wp2_with fail
 refine KC.mono ?_;rintro e w1 ⟨v1,rfl,ho,hb⟩;have KS:=UJ ho hb hb.size (by rw [LN.o];exact hn);obtain ⟨a1,c1,rfl,-,-,-⟩:=ho.at n LN.o;clear ho hb KC;go_wp2_with fail
 refine KS.mono ?_;rintro e w2 ⟨rfl,hb,hs,hq⟩;have HB:=zH ((hb.alloc hs (.map #[] 0)).alloc (by simp;omega) (.cells #[.map (some w2.heap.size)] 174));have HZ:=zH (QK w2);have HS2:=zH hs;have K:=IG (row:=some w2.heap.size) (UL hq) (by rw [LS.o];exact hn) (fresh (rU xs)) (fun k W=>uV (w2.heap.size+1) w2.heap.size W (rV (rU xs) k)) 151 #[.pointer (some ⟨w2.heap.size+1,0,none⟩)] UK
  (fun j hj=>by cases hj;rw [HZ.o];omega)
  (fun k W W' h g=>h.below g (by rw [HZ.o];omega) (by rw [HZ.o];omega))
  (fun k W hk h hg=>by
   have:=Yq ((rU xs).getD k default) (HD.o k hk) (w2.heap.size+1) w2.heap.size (by omega) (rV (rU xs) k) (by unfold rV;rw [dH];have:=bM k (rU xs);have:=LS.o;omega) W h;rw [<-J5 hk] at this;exact this)
  (QJ w2)
 rw [HW.o] at K;clear hb hs hq KS;go_upto_region 4 with fail
 generalize ((w2.alloc _).alloc _)=w4 at*;generalize iG xs=r at*;go_wp2_with fail
 refine K.mono ?_;rintro e w5 ⟨v,rfl,ho,hg,-⟩;have O:=zH (ho.mono HB.o.size);have G:Hid (Below w.heap.size w w5):=zH (HB.o.trans (kL hg HB.o.size HS2.o));obtain ⟨av,cv,rfl,-⟩:=ho.parts;clear ho hg K;go_wp2_with fail
 go_ret
 exact ⟨_,rfl,O.o,G.o⟩
theorem J6:∀ args w,(callFunc 289 args).run prog w= .ok (.enter 289 args) w:=enters_of func289 (by kernel_rfl) rfl
theorem Ny(x:fK)(hx:jf x.dot)(sb m:Nat)(ds:List gB)(W:World)(hI:uV sb m W ds):
  Calls prog 289 (#[Ym x]++#[.pointer (some ⟨sb,0,none⟩)]) W fun e W'=>e= .returned (.bool (!mH ds x.dot))/\Below W.heap.size W W':=by
 show Calls prog 289 #[.agg #[.string (bt x.key),.string (bt x.field),.int .i64 x.kind,.string (bt x.elem),.int .i64 x.n,.int .i64 x.dot.node,.int .i64 x.dot.seq,.int .i64 x.dot.pos],.pointer (some ⟨sb,0,none⟩)] W _
 obtain ⟨hc,D,n,hn,ho,hh⟩:=hI;have hkey:keyOf prog 77 (.agg #[.int .i64 x.dot.node,.int .i64 x.dot.seq,.int .i64 x.dot.pos])=some (kd x.dot):=kS hx;have KY:=zH hkey;have hlt:=aG W ⟨sb,0,none⟩ hc;have hb1:=zB W (.cells #[.string (bt x.key),.string (bt x.field),.int .i64 x.kind,.string (bt x.elem),.int .i64 x.n,.int .i64 x.dot.node,.int .i64 x.dot.seq,.int .i64 x.dot.pos] 79);have HO1:=zH (ho.alloc (.cells #[.string (bt x.key),.string (bt x.field),.int .i64 x.kind,.string (bt x.elem),.int .i64 x.n,.int .i64 x.dot.node,.int .i64 x.dot.seq,.int .i64 x.dot.pos] 79));have hc1:=(hb1.cell (p:=⟨sb,0,none⟩) hlt).trans hc;have HB1:=zH hb1;have IB:Hid (jS (W.alloc (.cells #[.string (bt x.key),.string (bt x.field),.int .i64 x.kind,.string (bt x.elem),.int .i64 x.n,.int .i64 x.dot.node,.int .i64 x.dot.seq,.int .i64 x.dot.pos] 79)) W.heap.size 0 x):=zH ⟨by simp,by simp,by simp,by simp,by simp,by simp,by simp,by simp⟩;have HHX:=zH (hh x.dot hx);clear hh ho hx hkey hlt hb1 hn;rw [<-HHX.o];go_enter func289,ntmps289
 go_upto_region 1 with fail
 generalize (W.alloc _)=wb at*;obtain ⟨c0,c1,c2,c3,c4,c5,c6,c7⟩:=IB.o;simp only [aJ] at c1 c2 c3 c4 c5 c6 c7
 have HB2:=zH (HB1.o.alloc HB1.o.size (.cells #[] 176));go_wp2_with (at_lookup;refine wpList_lookup_own_unit _ rfl _ _ 174 rfl 77 176 nM underlying174 (Io _) m n D rfl HO1.o _ _ rfl KY.o ?_)
 go_ret
 exact ⟨rfl,HB2.o⟩
theorem vR{α:Type}[Inhabited α]{xs:List α}{k:Nat}(hk:k<xs.length):xs.take k++[xs.getD k default]=xs.take (k+1):=(oZ hk).symm
theorem xk{u v:Value}{xs:List fK}{ds:List gB}{w:World}(hu:fM gG w u xs)(hv:fM jI w v ds)(hn:xs.length<=1000000)(hm:ds.length<=1000000)(hd:∀ x∈xs,jf x.dot)(hq:∀ d∈ds,jf d):
  Calls prog 239 #[u,v] w (vQ gG w (gH xs ds)):=by
 have hw1:Below w.heap.size w ((w.alloc (.map #[] 0)).alloc (.cells #[.map (some w.heap.size)] 174)):=((aj _ _).alloc (ah _) _).alloc (by simp) _;have HB1:=zH hw1;have HS1:=zH (QJ w);have HZ1:=zH (QK w);have HX:=zH hu;have HD:=zH (fun k (hk:k<xs.length)=>hd _ (mem_def hk));have HP:=zH (fun (W:World) (hb:Below w.heap.size w W) (hI:uV (w.heap.size+1) w.heap.size W ds) (hs:w.heap.size+2<=W.heap.size)=>
  IG (row:=none) (hu.below hb).old hn (fun j=> !mH ds (xs.getD j default).dot) (fun _ W'=>Below W.heap.size W W') 289 #[.pointer (some ⟨w.heap.size+1,0,none⟩)] J6 (fun j hj=>by cases hj) (fun k W' W'' h g=>h.trans g)
   (fun k W' hk h _=>(Ny _ (hd _ (mem_def hk)) (w.heap.size+1) w.heap.size ds W' (hI.below h (by omega) (by omega))).mono fun e W'' ⟨he,g⟩=>⟨he,h.trans (g.mono h.size),tQ g⟩) (aj _ _))
 have HE:Hid (ou (fun j=> !mH ds (xs.getD j default).dot) xs xs.length=gH xs ds):=zH (Yr (fun x:fK=> !mH ds x.dot) xs);rw [HE.o] at HP;obtain ⟨a,cap,rfl,-⟩:=hu.parts;obtain ⟨a',cap',rfl,-,-,-,h'⟩:=hv.parts;have HV:=zH h';have HQ:=zH (fun k (hk:k<ds.length)=>hq _ (mem_def hk));obtain ⟨n,hN⟩:∃ n,ds.length=n:=⟨_,rfl⟩;have HA:Hid (ds.take n=ds):=zH (by rw [<-hN,bq]);have H0:Hid (ds.take 0=[]):=zH rfl;have hmm:=@run_makeMap prog;rw [hN] at hm HV HQ ⊢;have LN:=zH hN;generalize gH xs ds=r at*;generalize xs.length=nx at*;clear hu hv h' hd hq hN hw1 HE HX HD hn;go_enter func239,ntmps239
 go_upto_region 2 with fail
 generalize ((w.alloc _).alloc _)=w1 at*;go_wp2_with fail
 go_loopw [11] (fun i wr=>∃ k:Nat,k<=n/\i= .int .i64 k/\uV (w.heap.size+1) w.heap.size wr (ds.take k)/\w1.grownBy wr (some w.heap.size)) (fun i _=>n-(intOf i).toNat)
 case atStart=>exact ⟨0,aL _,rfl,by rw [H0.o];exact HS1.o,bV _ _⟩
 case round=>
  obtain ⟨k,hk,rfl,hs,hg⟩:=hrel;have HG:=zH hg;have HB:Hid (Below w.heap.size w wr):=zH (HB1.o.trans (kL hg HB1.o.size (ah _)));have hz:w.heap.size+2<=wr.heap.size:=by have:=hg.size;rw [HZ1.o] at this;exact this
  have HZ:=zH hz;have HS:=zH hs;clear hg hz
  by_cases hlt:k<n
  ·have hkd:=zH (show k<ds.length by rw [LN.o];exact hlt)
   obtain ⟨b,o,c,hv,-,-,-,hc⟩:=nY (HV.o.below HB.o) (by rw [LN.o];omega);rw [LN.o] at hv;simp only [aC] at hv
   obtain ⟨rfl,-,rfl⟩:=hv;obtain ⟨c0,c1,c2⟩:=hc k hkd.o;have HQK:=zH (HQ.o k hlt);have HTK:=zH (vR hkd.o);clear hc;generalize ds.getD k default=d at*;obtain ⟨hcs,D,nm,hnm,ho,hh⟩:=hs;have hkey:keyOf prog 77 (.agg #[.int .i64 d.node,.int .i64 d.seq,.int .i64 d.pos])=some (kd d):=kS HQK.o;have KY:=zH hkey;have hD:=zH ho.isMap;have HH:=zH hh;have HN:=zH hnm;have hlm:nm<maxLen:=by
    have:(ds.take k).length<=k:=bM k ds;unfold maxLen;omega
   have HM:=zH hlm;have hb1:=zB wr (.cells #[.int .i64 d.node,.int .i64 d.seq,.int .i64 d.pos] 77);have HO1:=zH (ho.alloc (.cells #[.int .i64 d.node,.int .i64 d.seq,.int .i64 d.pos] 77));have hc1:=(hb1.cell (p:=⟨w.heap.size+1,0,none⟩) (by have:=HZ.o;show w.heap.size+1<wr.heap.size;omega)).trans hcs;have HC1:=zH hc1;have HG1:=zH (rT HG.o (.cells #[.int .i64 d.node,.int .i64 d.seq,.int .i64 d.pos] 77));clear ho hkey hb1 hnm hlm hcs hh;go_upto_region 5 with fail
   clear c0 c1 c2;have DB:Hid (pY (wr.alloc (.cells #[.int .i64 d.node,.int .i64 d.seq,.int .i64 d.pos] 77)) wr.heap.size 0 d):=zH ⟨by simp,by simp,by simp⟩;generalize (wr.alloc _)=wb at*;obtain ⟨d0,d1,d2⟩:=DB.o;simp only [aJ] at d1 d2
   go_wp2_with (at_mapUpdate;refine wpList_mapUpdate_own _ rfl _ _ _ 174 rfl 77 176 nM underlying174 unitElem w.heap.size nm D rfl HO1.o HM.o _ _ _ rfl rfl KY.o (.agg []) [] unitElem_mk ?_)
   intro w2 ho2 hg2;have O2:=zH (kW.put HQK.o HN.o hD.o HH.o ho2);rw [HTK.o] at O2;have C2:=zH (hg2.cell HC1.o (fun e=>by have:=dN e;simp at this));have G2:=zH (j5 HG1.o hg2 (fun j hj=> .inl hj));clear ho2 hg2;go_wp2_with fail
   go_roundw
   case rel=>exact ⟨k+1,by omega,by go_num,⟨C2.o,O2.o⟩,G2.o⟩
   case measure=>simp [intOf];omega
  ·obtain rfl:k=n:=by omega
   rw [HA.o] at hs;have K:=HP.o wr HB.o hs HZ.o;clear hs;go_wp2_with fail
   refine K.mono ?_;rintro e w5 ⟨v,rfl,ho,hg,-⟩;have O:=zH (ho.mono HB.o.size);have G:Hid (Below w.heap.size w w5):=zH (HB.o.trans ((II hg).mono HB.o.size));obtain ⟨av,cv,rfl,-⟩:=ho.parts;clear ho hg K;go_wp2_with fail
   go_ret
   exact ⟨_,rfl,O.o,G.o⟩
end Go.Proofs.YtfgcodcablpdcaaGreat
set_option maxRecDepth 100000
set_option maxHeartbeats 64000000
namespace Go.Proofs.YtfgcodcablpdcaaGreat
open Go.Proofs.Tryz
open Go.RowKit Plain
theorem Nz(x:fK):Ym x= .agg #[.string (bt x.key),.string (bt x.field),.int .i64 x.kind,.string (bt x.elem),.int .i64 x.n,.int .i64 x.dot.node,.int .i64 x.dot.seq,.int .i64 x.dot.pos]:=rfl
theorem dv_eq4(d:gB):dv d= .agg #[.int .i64 d.node,.int .i64 d.seq,.int .i64 d.pos]:=rfl
theorem nil_eq(s:iE):((bt s).toList==[])=decide (s.length=0):=by
 have t1:=zP s [];rw [show (bt []).toList=[] from sW []] at t1;rw [t1];exact decide_eq_decide.2 ⟨fun e=>by rw [e];rfl,aK⟩
theorem Yt(s:iE):(decide (s.length=0)||xY s)=iK s:=by
 unfold xY
 cases s with
 |nil=>rfl
 |cons c s=>simp
theorem UM(x:fK):(xY x.key&&(iK x.field&&((decide (x.elem.length<=32)&&qB x)&&jX x.dot)))=iH x:=by
 unfold iH
 cases xY x.key<;>cases iK x.field<;>cases decide (x.elem.length<=32)<;>cases qB x<;>cases jX x.dot<;>rfl
theorem UO(s:iE)(w:World):Calls prog 217 #[.string (bt s)] w fun e w'=>e= .returned (.bool (iK s))/\w=w':=by
 have K:=QH s w;have t1:=nil_eq s;rw [<-Yt s];generalize xY s=r at*;generalize bt s=S at*
 by_cases h:s.length=0
 ·rw [aI h] at t1 ⊢
  rw [Bool.true_or];clear h;go_enter func217,ntmps217
  go_wp2_with fail
  go_ret
  exact ⟨rfl,rfl⟩
 ·rw [aF h] at t1 ⊢
  rw [Bool.false_or];clear h;go_enter func217,ntmps217
  go_wp2_with fail
  refine K.mono ?_;rintro e w' ⟨rfl,rfl⟩;go_wp2_with fail
  go_ret
  exact ⟨rfl,rfl⟩
theorem idot_any(d:gB)(w:World):Calls prog 219 #[dv d] w (fO w (jX d)):=by
 have HB:Hid (jX d=decide (0<=d.node/\d.node<=7/\1<=d.seq/\d.seq<=1073741824/\0<=d.pos/\d.pos<=7)):=zH rfl;have G:=zH (zB w (.cells #[.int .i64 d.node,.int .i64 d.seq,.int .i64 d.pos] 77));rw [dv_eq4];generalize jX d=r at*;generalize d.node=a at*;generalize d.seq=b at*;generalize d.pos=c at*
 by_cases h0:(0:Int)<=a
 rotate_left
 ·obtain rfl:r=false:=by rw [HB.o];exact aF (by omega)
  go_enter func219,ntmps219
  go_wp2_with fail
  go_ret
  exact ⟨rfl,G.o⟩
 by_cases h1:a<8
 rotate_left
 ·obtain rfl:r=false:=by rw [HB.o];exact aF (by omega)
  go_enter func219,ntmps219
  go_wp2_with fail
  go_ret
  exact ⟨rfl,G.o⟩
 by_cases h2:(1:Int)<=b
 rotate_left
 ·obtain rfl:r=false:=by rw [HB.o];exact aF (by omega)
  go_enter func219,ntmps219
  go_wp2_with fail
  go_ret
  exact ⟨rfl,G.o⟩
 by_cases h3:b<=1073741824
 rotate_left
 ·obtain rfl:r=false:=by rw [HB.o];exact aF (by omega)
  go_enter func219,ntmps219
  go_wp2_with fail
  go_ret
  exact ⟨rfl,G.o⟩
 by_cases h4:(0:Int)<=c
 rotate_left
 ·obtain rfl:r=false:=by rw [HB.o];exact aF (by omega)
  go_enter func219,ntmps219
  go_wp2_with fail
  go_ret
  exact ⟨rfl,G.o⟩
 by_cases h5:c<8
 rotate_left
 ·obtain rfl:r=false:=by rw [HB.o];exact aF (by omega)
  go_enter func219,ntmps219
  go_wp2_with fail
  go_ret
  exact ⟨rfl,G.o⟩
 obtain rfl:r=true:=by rw [HB.o];exact aI (by omega)
 go_enter func219,ntmps219
 go_wp2_with fail
 go_ret
 exact ⟨rfl,G.o⟩
theorem Yu(x:fK)(w:World):Calls prog 218 #[Ym x] w (fO w (decide (x.elem.length<=32)&&qB x)):=by
 have HB:Hid ((decide (x.elem.length<=32)&&qB x)=(decide (x.elem.length<=32)&&((decide (x.kind=1\/x.kind=2)&&decide (x.n=0))||(decide (x.kind=3)&&decide (x.elem.length=0))))):=zH rfl;have G:=zH (zB w (.cells #[.string (bt x.key),.string (bt x.field),.int .i64 x.kind,.string (bt x.elem),.int .i64 x.n,.int .i64 x.dot.node,.int .i64 x.dot.seq,.int .i64 x.dot.pos] 79));have t1:=nil_eq x.elem;have z1:=nZ x.elem;rw [Nz];generalize (decide (x.elem.length<=32)&&qB x)=r at*;generalize bt x.key=K at*;generalize bt x.field=F at*;generalize bt x.elem=El at*;generalize x.elem.length=m at*;generalize x.kind=kd at*;generalize x.n=nn at*
 by_cases h1:kd=1
 ·subst h1
  by_cases hm:m<=32
  ·have hi:(m:Int)<=32:=by omega
   by_cases hn:nn=0
   ·subst hn
    obtain rfl:r=true:=by rw [HB.o];simp [hm]
    clear hm t1;go_enter func218,ntmps218
    go_wp2_with fail
    go_ret
    exact ⟨rfl,G.o⟩
   ·have b1:(nn==0)=false:=by simpa using hn
    obtain rfl:r=false:=by rw [HB.o];simp [hn]
    clear hm t1;go_enter func218,ntmps218
    go_wp2_with fail
    go_ret
    exact ⟨rfl,G.o⟩
  ·have hi:¬ (m:Int)<=32:=by omega
   obtain rfl:r=false:=by rw [HB.o];simp [hm]
   clear hm t1;go_enter func218,ntmps218
   go_wp2_with fail
   go_ret
   exact ⟨rfl,G.o⟩
 by_cases h2:kd=2
 ·subst h2
  by_cases hm:m<=32
  ·have hi:(m:Int)<=32:=by omega
   by_cases hn:nn=0
   ·subst hn
    obtain rfl:r=true:=by rw [HB.o];simp [hm]
    clear hm t1;go_enter func218,ntmps218
    go_wp2_with fail
    go_ret
    exact ⟨rfl,G.o⟩
   ·have b1:(nn==0)=false:=by simpa using hn
    obtain rfl:r=false:=by rw [HB.o];simp [hn]
    clear hm t1;go_enter func218,ntmps218
    go_wp2_with fail
    go_ret
    exact ⟨rfl,G.o⟩
  ·have hi:¬ (m:Int)<=32:=by omega
   obtain rfl:r=false:=by rw [HB.o];simp [hm]
   clear hm t1;go_enter func218,ntmps218
   go_wp2_with fail
   go_ret
   exact ⟨rfl,G.o⟩
 by_cases h3:kd=3
 ·subst h3
  by_cases hz:m=0
  ·obtain rfl:r=true:=by rw [HB.o];simp [hz]
   rw [aI hz] at t1;clear hz;go_enter func218,ntmps218
   go_wp2_with fail
   go_ret
   exact ⟨rfl,G.o⟩
  ·obtain rfl:r=false:=by rw [HB.o];simp [hz]
   rw [aF hz] at t1;clear hz;go_enter func218,ntmps218
   go_wp2_with fail
   go_ret
   exact ⟨rfl,G.o⟩
 ·obtain rfl:r=false:=by rw [HB.o];simp [h1,h2,h3]
  clear t1;go_enter func218,ntmps218
  go_wp2_with fail
  go_ret
  exact ⟨rfl,G.o⟩
theorem uN(x:fK)(w:World):Calls prog 153 #[Ym x] w (fO w (iH x)):=by
 have G:=zH (zB w (.cells #[.string (bt x.key),.string (bt x.field),.int .i64 x.kind,.string (bt x.elem),.int .i64 x.n,.int .i64 x.dot.node,.int .i64 x.dot.seq,.int .i64 x.dot.pos] 79));have IB:Hid (jS (w.alloc (.cells #[.string (bt x.key),.string (bt x.field),.int .i64 x.kind,.string (bt x.elem),.int .i64 x.n,.int .i64 x.dot.node,.int .i64 x.dot.seq,.int .i64 x.dot.pos] 79)) w.heap.size 0 x):=zH ⟨by simp,by simp,by simp,by simp,by simp,by simp,by simp,by simp⟩;have KK:=zH (fun W=>QH x.key W);have KF:=zH (fun W=>UO x.field W);have KV:=zH (fun W=>Yu x W);have KD:=zH (fun W=>idot_any x.dot W);rw [<-UM x];rw [Nz] at KV ⊢;rw [dv_eq4] at KD;generalize (decide (x.elem.length<=32)&&qB x)=r3 at*;generalize xY x.key=r1 at*;generalize iK x.field=r2 at*;generalize jX x.dot=r4 at*;go_enter func153,ntmps153
 go_upto_region 1 with fail
 generalize (w.alloc _)=wb at*;obtain ⟨c0,c1,c2,c3,c4,c5,c6,c7⟩:=IB.o;simp only [aJ] at c1 c2 c3 c4 c5 c6 c7
 go_wp2_with fail
 refine (KK.o _).mono ?_;rintro e w1 ⟨rfl,rfl⟩
 cases r1 with
 |false=>
  rw [bU];go_wp2_with fail
  go_ret
  exact ⟨rfl,G.o⟩
 |true=>
  rw [aS];go_wp2_with fail
  refine (KF.o _).mono ?_;rintro e w1 ⟨rfl,rfl⟩
  cases r2 with
  |false=>
   rw [bU];go_wp2_with fail
   go_ret
   exact ⟨rfl,G.o⟩
  |true=>
   rw [aS];go_wp2_with fail
   refine (KV.o _).mono ?_;rintro e w3 ⟨rfl,hb⟩;have G3:Hid (Below w.heap.size w w3):=zH (G.o.trans (hb.mono G.o.size));have IB3:=zH (IB.o.below hb IB.o.lt);clear hb c0 c1 c2 c3 c4 c5 c6 c7;obtain ⟨c0,c1,c2,c3,c4,c5,c6,c7⟩:=IB3.o;simp only [aJ] at c1 c2 c3 c4 c5 c6 c7
   cases r3 with
   |false=>
    rw [bU];go_wp2_with fail
    go_ret
    exact ⟨rfl,G3.o⟩
   |true=>
    rw [aS];go_wp2_with fail
    refine (KD.o _).mono ?_;rintro e w4 ⟨rfl,hb⟩;have G4:Hid (Below w.heap.size w w4):=zH (G3.o.trans (hb.mono G3.o.size));clear hb;go_wp2_with fail
    go_ret
    exact ⟨rfl,G4.o⟩
end Go.Proofs.YtfgcodcablpdcaaGreat