import Derived.Test.YtfgcodcablpdcaaGreatOrLack
set_option linter.unusedVariables false
set_option maxRecDepth 100000
set_option maxHeartbeats 64000000
namespace Go.Proofs.YtfgcodcablpdcaaGreat
open Go.Proofs.Tryz
open Go.RowKit Plain
theorem Ba{P:Nat ->Prop}{u:Value}{xs:List gD}{w:World}(hu:Sq jo P w u xs)(hP:∀ b,P b ->b<w.heap.size)(hn:xs.length<=1000000):Calls prog 235 #[u] w fun e w'=>∃ v,e= .returned v/\iO P jo w.heap.size w' v xs/\Below w.heap.size w w':=by
 obtain ⟨a,cap,rfl,-,-,g0,h⟩:=fM.parts (L:=jo) (hu.mono hP);have q22:∀ (w:World) (a:Option Addr) (n c n' c':Nat),(binOp .eql 80 (.slice a n c) (.slice none n' c')).run prog w= .ok (.bool a.isNone) w:=fun w a n c n' c'=>Lib.run_eql_slice_nil w _ _ a n c n' c' underlying80
 cases a with
 |none=>
  obtain rfl:=g0 rfl;obtain rfl:xs=[]:=aK (by have:=h.iY;omega);clear hu h hP;go_enter func235,ntmps235
  go_wp2_with fail
  go_ret
  exact ⟨_,rfl,iO.nil _ _ _,aj _ _⟩
 |some ad=>
  have hB:=zB w (.cells #[] 85);have HS:Hid (Sq jo P (w.alloc (.cells #[] 85)) (.slice (some ad) xs.length cap) xs):=zH (Sq.agree hu fun b hb=>hB.block b (hP b hb));have HO:Hid (iO P jo w.heap.size (w.alloc (.cells #[] jo.E)) (.slice (some ⟨w.heap.size,0,none⟩) 0 0) []):=zH ⟨[],World.ownsRow_made w #[] 0 (ah _) (aL _) (by simp),Rows.nil _ _⟩;have HB:=zH hB;have hz:w.heap.size<=(w.alloc (.cells #[] 85)).heap.size:=by simp
  have HZ:=zH hz;have HI:Hid (∀ vs x,jo.R P (w.alloc (.cells #[] 85)) vs x ->jo.R (fun b=>P b/\b<(w.alloc (.cells #[] 85)).heap.size/\Value.ownBlock (.slice (some ⟨w.heap.size,0,none⟩) 0 0)≠some b) (w.alloc (.cells #[] 85)) vs x):=zH (fun vs x h=>jo.mono h fun b hb=>⟨hb,ay (hP b hb) hz,fun e=>by cases e;exact Nat.lt_irrefl _ (hP _ hb)⟩);clear hu h g0 hz hB hP;go_enter func235,ntmps235
  go_wp2_with (at_builtin;refine kE P jo rfl (.tmp 5) (.tmp 6) rfl w.heap.size rfl HO.o rfl HS.o HI.o (by simp;omega) HZ.o ?_)
  intro v' w2 ho' hgr _;have O3:=zH ho';have B3:=zH (HB.o.grown hgr HZ.o (fun j hj=>(HO.o.lt j hj).1));clear ho' hgr;go_wp2_with fail
  go_ret
  exact ⟨_,rfl,by simpa using O3.o,B3.o⟩
structure mI(N:Nat)(u:World)(rb c:Nat)(xs:List gD)(k:Nat)(vals:List Value):Prop where
 own:u.ownsRow N 85 7 (.slice (some ⟨rb,0,none⟩) xs.length c) xs.length vals
 len:vals.length=xs.length*7
 each:∀ j x,xs[j]? =some x ->Nq (fun b=>(j<k ->N<=b)/\b<u.heap.size/\b≠rb) u (pt 7 vals j) x
theorem mI.start{N:Nat}{u:World}{rb c:Nat}{xs:List gD}(h:gy jo N u (.slice (some ⟨rb,0,none⟩) xs.length c) xs):∃ vals,mI N u rb c xs 0 vals:=by
 obtain ⟨vals,ho,hr⟩:=h;exact ⟨vals,ho,hr.1,fun j x hj=>Iw (hr.2 j x hj) fun b hb=>⟨fun h=>absurd h (Nat.not_lt_zero _),hb.1,fun e=>hb.2 (by rw [e];rfl)⟩⟩
theorem mI.below{N:Nat}{u u':World}{rb c:Nat}{xs:List gD}{k:Nat}{vals:List Value}(h:mI N u rb c xs k vals)(hb:Below u.heap.size u u'):mI N u' rb c xs k vals:=by
 refine ⟨⟨h.own.1,?_⟩,h.len,fun j x hj=>Iw (Nr (h.each j x hj) fun b hl=>hb.block b hl.2.1) fun b hl=>⟨hl.1,ay hl.2.1 hb.size,hl.2.2⟩⟩
 rcases h.own.2 with hn|⟨g,cap,cur,hv,hb',hg,hr'⟩
 ·exact .inl hn
 ·exact .inr ⟨g,cap,cur,hv,hb',(hb.block g (aH.1 hg).1).trans hg,hr'⟩
theorem mI.lt{N:Nat}{u:World}{rb c:Nat}{xs:List gD}{k:Nat}{vals:List Value}(h:mI N u rb c xs k vals):N<=rb/\rb<u.heap.size:=fG h.own rb rfl
theorem mI.at{N:Nat}{u:World}{rb c:Nat}{xs:List gD}{k:Nat}{vals:List Value}(h:mI N u rb c xs k vals){j:Nat}{x:gD}(hj:xs[j]? =some x):
  ∃ dv,pF u rb (j*7) x dv/\Sq jI (fun b=>(j<k ->N<=b)/\b<u.heap.size/\b≠rb) u dv x.drops:=by
 obtain ⟨dv,e,hs⟩:=h.each j x hj;have hlt:j<xs.length:=(aP.1 hj).1;have g:∀ i v,i<7 ->(Cn x dv)[i]? =some v ->u.cell? ⟨rb,j*7+i,none⟩=some v:=fun i v hi hv=>by
  rw [bI h.own (j*7+i) (by omega),<-lH vals j i hi,e,hv]
 exact ⟨dv,⟨g 0 _ (by omega) rfl,g 1 _ (by omega) rfl,g 2 _ (by omega) rfl,g 3 _ (by omega) rfl,g 4 _ (by omega) rfl,g 5 _ (by omega) rfl,g 6 _ (by omega) rfl⟩,hs⟩
theorem pt_set7(vals:List Value)(k j:Nat)(u:Value)(hk:(k+1)*7<=vals.length):pt 7 (vals.set (k*7+6) u) j=if j=k then (pt 7 vals k).set 6 u else pt 7 vals j:=by
 have len:∀ (l:List Value) (q:Nat),(pt 7 l q).length<=7:=fun l q=>by unfold pt;rw [aO];omega
 have hl:(pt 7 vals k).length=7:=by unfold pt;rw [aO,bB];omega
 apply eF
 intro i
 by_cases hi:i<7
 ·rw [lH _ _ _ hi,dx]
  by_cases c:j=k
  ·subst c
   rw [if_pos rfl,dx]
   by_cases e:i=6
   ·subst e
    rw [if_pos rfl,if_pos (by omega),if_pos rfl,if_pos (by omega)]
   ·rw [if_neg (by omega),if_neg (fun x=>e x.symm),lH _ _ _ hi]
  ·rw [if_neg (by omega),if_neg c,lH _ _ _ hi]
 ·rw [aW (by have:=len (vals.set (k*7+6) u) j;omega)]
  split
  ·rw [aW (by rw [aX,hl];omega)]
  ·rw [aW (by have:=len vals j;omega)]
theorem mI.set{N:Nat}{u:World}{rb c:Nat}{xs:List gD}{k:Nat}{vals:List Value}(h:mI N u rb c xs k vals){x:gD}(hk:xs[k]? =some x){dv:Value}(hd:Sq jI (fun b=>N<=b/\b<u.heap.size/\b≠rb) u dv x.drops):
  mI N (u.setCell ⟨rb,k*7+6,none⟩ dv) rb c xs (k+1) (vals.set (k*7+6) dv):=by
 have hlt:k<xs.length:=(aP.1 hk).1;have hs:(u.setCell ⟨rb,k*7+6,none⟩ dv).heap.size=u.heap.size:=by simp [World.setCell]
 have hkl:(k+1)*7<=vals.length:=by rw [h.len];exact bN 7 hlt
 have hne:∀ b,b≠rb ->(u.setCell ⟨rb,k*7+6,none⟩ dv).heap[b]? =u.heap[b]? :=fun b e=>aN _ _ _ _ e
 refine ⟨(bQ h.own (k*7+6) dv).1,by rw [aX];exact h.len,fun j y hj=> ?_⟩;rw [pt_set7 vals k j dv hkl]
 by_cases e:j=k
 ·subst e
  rw [hk] at hj
  cases hj
  rw [if_pos rfl];obtain ⟨dv0,e0,-⟩:=h.each j x hk;rw [e0];exact ⟨dv,rfl,(hd.agree fun b hb=>hne b hb.2.2).mono fun b hb=>⟨fun _=>hb.1,by rw [hs];exact hb.2.1,hb.2.2⟩⟩
 ·rw [if_neg e]
  exact Iw (Nr (h.each j y hj) fun b hb=>hne b hb.2.2) fun b hb=>⟨fun hl=>hb.1 (by omega),by rw [hs];exact hb.2.1,hb.2.2⟩
theorem mI.done{N:Nat}{u:World}{rb c:Nat}{xs:List gD}{vals:List Value}(h:mI N u rb c xs xs.length vals):Sq jo (fun b=>N<=b/\b<u.heap.size) u (.slice (some ⟨rb,0,none⟩) xs.length c) xs:=by
 have hlt:=h.lt;have hd:=bI h.own
 rcases h.own.2 with ⟨e,-⟩|⟨g,cap,cur,hv,hb',hg,hnc,hcm,hcs,ht⟩
 ·cases e
 ·simp only [aC,bS,Addr.mk.injEq,and_true,true_and] at hv
  obtain ⟨rfl,rfl⟩:=hv;refine ⟨_,c,vals,rfl,hnc,hcm,(by simp),⟨h.len,fun j x hj=>Iw (h.each j x hj) fun b hb=>⟨hb.1 (aP.1 hj).1,hb.2.1⟩⟩,fun hp=>⟨rb,0,rfl,hlt,fun i v hi=> ?_⟩⟩;have hil:i<xs.length*7:=by rw [<-h.len];exact (aP.1 hi).1
  rw [aJ,hd i hil,hi]
def Zy(w:World)(t:fI)(e:Ending)(w':World):Prop:=∃ dv ev,e= .returned (.agg #[.int .i64 t.node,.int .i64 t.seq,dv,ev])/\Sq gL (fun b=>w.heap.size<=b/\b<w'.heap.size) w' dv t.deps/\Sq jo (fun b=>w.heap.size<=b/\b<w'.heap.size) w' ev t.effs/\Below w.heap.size w w'
theorem st4q{w:World}{g:Nat}{z0 z1 z2 z3:Value}{t:TypeId}(h:w.heap[g]? =some (.cells #[z0,z1,z2,z3] t (0,0))):
  (∀ a,(w.setCell ⟨g,0,none⟩ a).cell? ⟨g,0,none⟩=some a)/\(∀ a b,((w.setCell ⟨g,0,none⟩ a).setCell ⟨g,1,none⟩ b).cell? ⟨g,1,none⟩=some b)/\(∀ a b c,(((w.setCell ⟨g,0,none⟩ a).setCell ⟨g,1,none⟩ b).setCell ⟨g,2,none⟩ c).cell? ⟨g,2,none⟩=some c)/\
  (∀ a b c d,((((w.setCell ⟨g,0,none⟩ a).setCell ⟨g,1,none⟩ b).setCell ⟨g,2,none⟩ c).setCell ⟨g,3,none⟩ d).cell? ⟨g,3,none⟩=some d):=by
 have h1:=fun a=>aB _ g 0 _ _ a h
 have h2:=fun a b=>aB _ g 1 _ _ b (h1 a)
 have h3:=fun a b c=>aB _ g 2 _ _ c (h2 a b)
 have h4:=fun a b c d=>aB _ g 3 _ _ d (h3 a b c)
 exact ⟨fun a=>by simp [World.cell?,h1 a],fun a b=>by simp [World.cell?,h2 a b],fun a b c=>by simp [World.cell?,h3 a b c],fun a b c d=>by simp [World.cell?,h4 a b c d]⟩
theorem sq4{α:Type}{L:El α}{N:Nat}{w:World}{v:Value}{xs:List α}{g:Nat}(h:Sq L (fun b=>N<=b/\b<w.heap.size/\b≠g) w v xs)(a b c d:Value):
  Sq L (fun k=>N<=k/\k<((((w.setCell ⟨g,0,none⟩ a).setCell ⟨g,1,none⟩ b).setCell ⟨g,2,none⟩ c).setCell ⟨g,3,none⟩ d).heap.size) ((((w.setCell ⟨g,0,none⟩ a).setCell ⟨g,1,none⟩ b).setCell ⟨g,2,none⟩ c).setCell ⟨g,3,none⟩ d) v xs:=by
 have e:∀ (u:World) (i:Nat) (x:Value) k,k≠g ->(u.setCell ⟨g,i,none⟩ x).heap[k]? =u.heap[k]? :=fun u i x k hk=>aN _ _ _ _ hk
 have z:∀ (u:World) (i:Nat) (x:Value),(u.setCell ⟨g,i,none⟩ x).heap.size=u.heap.size:=fun u i x=>by simp [World.setCell]
 rw [z,z,z,z];exact (h.agree fun k hk=>(e _ _ _ _ hk.2.2).trans ((e _ _ _ _ hk.2.2).trans ((e _ _ _ _ hk.2.2).trans (e _ _ _ _ hk.2.2)))).mono fun k hk=>⟨hk.1,hk.2.1⟩
theorem gy.Bq{α:Type}{L:El α}{B:Nat}{w:World}{a:Option Addr}{n c:Nat}{xs:List α}(h:gy L B w (.slice a n c) xs):a=none ->c=0:=by
 obtain ⟨a',c',e,-,-,-,h0⟩:=h.parts;simp only [aC] at e
 obtain ⟨rfl,-,rfl⟩:=e;exact h0
theorem getD_some{xs:List gD}{k:Nat}(h:k<xs.length):xs[k]? =some (xs.getD k default):=by simp [List.getD,h]
theorem Zf{tv:Value}{t:fI}{w:World}(ht:kN w tv t)(hd:t.deps.length<=1000000)(he:t.effs.length<=1000000)(hx:∀ e∈t.effs,e.drops.length<=1000000):Calls prog 205 #[tv] w (Zy w t):=by
 obtain ⟨da,dn,dc,ea,en,ec,rfl,k1,k2⟩:=ht.parts;have NY:=zH k1;have HK2:=zH k2;have HX:=zH (fun k (hk:k<t.effs.length)=>hx (t.effs.getD k default) (bD (getD_some hk)));have B0:=zH (aM w (.cells #[.int .i64 t.node,.int .i64 t.seq,.slice da dn dc,.slice ea en ec] 82));have Z0:=zH (aM (w.alloc (.cells #[.int .i64 t.node,.int .i64 t.seq,.slice da dn dc,.slice ea en ec] 82)) (.cells #[.int .i64 0,.int .i64 0,.slice none 0 0,.slice none 0 0] 82));have G0:Hid (Below w.heap.size w ((w.alloc (.cells #[.int .i64 t.node,.int .i64 t.seq,.slice da dn dc,.slice ea en ec] 82)).alloc (.cells #[.int .i64 0,.int .i64 0,.slice none 0 0,.slice none 0 0] 82))):=zH (((aj _ _).alloc (ah _) _).alloc (by simp) _);have BX:Hid (((w.alloc (.cells #[.int .i64 t.node,.int .i64 t.seq,.slice da dn dc,.slice ea en ec] 82)).alloc (.cells #[.int .i64 0,.int .i64 0,.slice none 0 0,.slice none 0 0] 82)).heap[w.heap.size]? =some (.cells #[.int .i64 t.node,.int .i64 t.seq,.slice da dn dc,.slice ea en ec] 82 (0,0))):=zH ((Below.heap_alloc _ _ _ (by simp)).trans B0.o);have BZ:Hid (((w.alloc (.cells #[.int .i64 t.node,.int .i64 t.seq,.slice da dn dc,.slice ea en ec] 82)).alloc (.cells #[.int .i64 0,.int .i64 0,.slice none 0 0,.slice none 0 0] 82)).heap[w.heap.size+1]? =some (.cells #[.int .i64 0,.int .i64 0,.slice none 0 0,.slice none 0 0] 82 (0,0))):=zH (by have:=Z0.o;simpa using this);have ZS:Hid (w.heap.size+2<=((w.alloc (.cells #[.int .i64 t.node,.int .i64 t.seq,.slice da dn dc,.slice ea en ec] 82)).alloc (.cells #[.int .i64 0,.int .i64 0,.slice none 0 0,.slice none 0 0] 82)).heap.size):=zH (by simp);have HDL:=zH hd;have HEL:=zH he;clear ht k1 k2 hx B0 Z0 hd he;go_enter func205,ntmps205
 go_upto_region 1 with fail
 generalize ((w.alloc _).alloc _)=wb at*;have KD:=zH (nL (NY.o.below G0.o) HDL.o);have c2:wb.cell? ⟨w.heap.size,2,none⟩=some (.slice da dn dc):=cell_of_row _ _ 2 _ _ _ BX.o;go_upto_region 2 with (go_at_call 89;refine KD.o.mono ?_;rintro e w1 ⟨v1,rfl,ho1,hb1⟩;have BX1:=zH ((hb1.block _ (by have:=ZS.o;omega)).trans BX.o);have BZ1:=zH ((hb1.block _ (by have:=ZS.o;omega)).trans BZ.o);have O1:=zH (ho1.new gU);have G1:=zH (G0.o.trans (hb1.mono G0.o.size));have S1:=zH hb1.size;obtain ⟨a1,cc1,rfl,-,-,-,-⟩:=ho1.parts;have y2:w1.cell? ⟨w.heap.size,2,none⟩=some (.slice da dn dc):=cell_of_row _ _ 2 _ _ _ BX1.o;have y3:=jG BX1.o 2;clear ho1 hb1 KD)
 obtain ⟨ln,hln⟩:∃ n,n=t.deps.length:=⟨_,rfl⟩;rw [<-hln] at O1 ⊢;have BX2:Hid ((w1.setCell ⟨w.heap.size,2,none⟩ (.slice a1 ln cc1)).heap[w.heap.size]? =some (.cells #[.int .i64 t.node,.int .i64 t.seq,.slice a1 ln cc1,.slice ea en ec] 82 (0,0))):=zH (aB _ w.heap.size 2 _ _ _ BX1.o);have BZ2:Hid ((w1.setCell ⟨w.heap.size,2,none⟩ (.slice a1 ln cc1)).heap[w.heap.size+1]? =some (.cells #[.int .i64 0,.int .i64 0,.slice none 0 0,.slice none 0 0] 82 (0,0))):=zH ((aN _ _ _ _ (by show w.heap.size+1≠w.heap.size;omega)).trans BZ1.o);have G2:Hid (Below w.heap.size w (w1.setCell ⟨w.heap.size,2,none⟩ (.slice a1 ln cc1))):=zH (G1.o.setCell (ah _) _);have D2:Hid (Sq gL (fun b=>w.heap.size+2<=b/\b<(w1.setCell ⟨w.heap.size,2,none⟩ (.slice a1 ln cc1)).heap.size) (w1.setCell ⟨w.heap.size,2,none⟩ (.slice a1 ln cc1)) (.slice a1 ln cc1) t.deps):=zH ((O1.o.agree fun b hb=>aN _ _ _ _ (by show b≠w.heap.size;have:=ZS.o;omega)).mono fun b hb=>⟨by have:=ZS.o;omega,by simpa [World.setCell] using hb.2⟩);have S2:Hid (w.heap.size+2<=(w1.setCell ⟨w.heap.size,2,none⟩ (.slice a1 ln cc1)).heap.size):=zH (by have:=ZS.o;have:=S1.o;simp [World.setCell];omega);clear y2 y3 c2 BX1 BZ1 O1 G1 BX BZ G0 NY hln;generalize (w1.setCell _ _)=w2 at*;have KE:=zH (Ba (P:=fun b=>b<w.heap.size) (HK2.o.agree fun b hb=>G2.o.block b hb) (fun b hb=>ay hb G2.o.size) HEL.o);have c3:w2.cell? ⟨w.heap.size,3,none⟩=some (.slice ea en ec):=cell_of_row _ _ 3 _ _ _ BX2.o;go_upto_region 3 with (go_at_call 235;refine KE.o.mono ?_;rintro e w3 ⟨v3,rfl,ho3,hb3⟩;have BX3:=zH ((hb3.block _ (by have:=S2.o;omega)).trans BX2.o);have BZ3:=zH ((hb3.block _ (by have:=S2.o;omega)).trans BZ2.o);have O3:=zH ho3;have G3:=zH (G2.o.trans (hb3.mono G2.o.size));have H3:=zH hb3;obtain ⟨a3,cc3,rfl,-,-,-,-⟩:=ho3.own.parts;have y3:w3.cell? ⟨w.heap.size,3,none⟩=some (.slice ea en ec):=cell_of_row _ _ 3 _ _ _ BX3.o;have y4:=jG BX3.o 3;clear ho3 hb3 KE)
 obtain ⟨n,hn⟩:∃ n,n=t.effs.length:=⟨_,rfl⟩;rw [<-hn] at O3 ⊢;have Iq:=zH hn;have BX4:Hid ((w3.setCell ⟨w.heap.size,3,none⟩ (.slice a3 n cc3)).heap[w.heap.size]? =some (.cells #[.int .i64 t.node,.int .i64 t.seq,.slice a1 ln cc1,.slice a3 n cc3] 82 (0,0))):=zH (aB _ w.heap.size 3 _ _ _ BX3.o);have BZ4:Hid ((w3.setCell ⟨w.heap.size,3,none⟩ (.slice a3 n cc3)).heap[w.heap.size+1]? =some (.cells #[.int .i64 0,.int .i64 0,.slice none 0 0,.slice none 0 0] 82 (0,0))):=zH ((aN _ _ _ _ (by show w.heap.size+1≠w.heap.size;omega)).trans BZ3.o);have G4:Hid (Below w.heap.size w (w3.setCell ⟨w.heap.size,3,none⟩ (.slice a3 n cc3))):=zH (G3.o.setCell (ah _) _);have Z4:Hid (w2.heap.size<=(w3.setCell ⟨w.heap.size,3,none⟩ (.slice a3 n cc3)).heap.size):=zH (by have:=H3.o.size;simpa [World.setCell] using this);have D4:Hid (Sq gL (fun b=>w.heap.size+2<=b/\b<w2.heap.size) (w3.setCell ⟨w.heap.size,3,none⟩ (.slice a3 n cc3)) (.slice a1 ln cc1) t.deps):=zH (D2.o.agree fun b hb=>(aN _ _ _ _ (by show b≠w.heap.size;omega)).trans (H3.o.block b hb.2));have O4:Hid (gy jo w2.heap.size (w3.setCell ⟨w.heap.size,3,none⟩ (.slice a3 n cc3)) (.slice a3 n cc3) t.effs):=zH (O3.o.kept (by simp [World.setCell]) fun b hl hb=>aN _ _ _ _ (by show b≠w.heap.size;have:=S2.o;rcases hb with hb|hb<;>omega)).own;have hm:maxLen=9223372036854775807:=rfl;have HE2:Hid (n<=1000000):=zH (by have:=HEL.o;omega);clear y3 y4 c3 BX3 BZ3 O3 G3 BX2 BZ2 D2 hn hm;generalize (w3.setCell _ _)=w4 at*;have c3:w4.cell? ⟨w.heap.size,3,none⟩=some (.slice a3 n cc3):=cell_of_row _ _ 3 _ _ _ BX4.o
 by_cases h0:n=0
 ·subst h0
  have hnil:t.effs=[]:=aK Iq.o.symm;go_wp2_with fail
  go_loopw [16] (fun i wr=>i= .int .i64 0/\wr=w4) (fun i _=>0)
  case atStart=>exact ⟨rfl,rfl⟩
  case round=>
   obtain ⟨rfl,rfl⟩:=hrel;have k0:wr.cell? ⟨w.heap.size,0,none⟩=some (.int .i64 t.node):=cell_of_row _ _ 0 _ _ _ BX4.o;have k1:wr.cell? ⟨w.heap.size,1,none⟩=some (.int .i64 t.seq):=cell_of_row _ _ 1 _ _ _ BX4.o;have k2:wr.cell? ⟨w.heap.size,2,none⟩=some (.slice a1 ln cc1):=cell_of_row _ _ 2 _ _ _ BX4.o;have r0:wr.cell? ⟨w.heap.size+1,0,none⟩=some (.int .i64 0):=cell_of_row _ _ 0 _ _ _ BZ4.o;have r1:wr.cell? ⟨w.heap.size+1,1,none⟩=some (.int .i64 0):=cell_of_row _ _ 1 _ _ _ BZ4.o;have r2:wr.cell? ⟨w.heap.size+1,2,none⟩=some (.slice none 0 0):=cell_of_row _ _ 2 _ _ _ BZ4.o;have r3:wr.cell? ⟨w.heap.size+1,3,none⟩=some (.slice none 0 0):=cell_of_row _ _ 3 _ _ _ BZ4.o;have f0:=jG BZ4.o 0;have f1:=jG BZ4.o 1;have f2:=jG BZ4.o 2;have f3:=jG BZ4.o 3;go_wp2_with fail
   obtain ⟨s0,s1,s2,s3⟩:=st4q BZ4.o;refine bodyPost_ret (v:= .agg #[.int .i64 t.node,.int .i64 t.seq,.slice a1 ln cc1,.slice a3 0 cc3]) (by simp [results,results205,go_sem,s0,s1,s2,s3]) rfl ⟨_,_,rfl,?_,?_,?_⟩
   ·exact sq4 (D4.o.mono fun b hb=>⟨by omega,by have:=Z4.o;omega,by omega⟩) _ _ _ _
   ·rw [hnil]
    exact ⟨a3,cc3,[],rfl,aL _,by have:=O4.o.seq.iY;unfold maxLen;omega,(O4.o.Bq),Rows.nil _ _,fun h=>absurd h (by simp)⟩
   ·exact (((G4.o.setCell (eZ _) _).setCell (eZ _) _).setCell (eZ _) _).setCell (eZ _) _
 ·obtain ⟨rb,hrb⟩:∃ rb,a3=some ⟨rb,0,none⟩:=by
   obtain ⟨vals,ho,-⟩:=O4.o
   rcases ho.2 with ⟨-,hz⟩|⟨g,cap,cur,hv,-⟩
   ·rw [<-Iq.o] at hz;exact absurd hz h0
   ·simp only [aC] at hv;exact ⟨g,hv.1⟩
  subst hrb;have RB:Hid (w2.heap.size<=rb/\rb<w4.heap.size):=zH (O4.o.lt rb rfl);have hd3:=O4.o.seq.iY;have HL0:Hid (∃ vals,mI (w.heap.size+2) w4 rb cc3 t.effs 0 vals):=zH (by have h4:=O4.o;rw [Iq.o] at h4;exact mI.start (h4.mono S2.o));have L4:(n:Int)<=cc3:=by omega
  have L5:(cc3:Int)<=9223372036854775807:=by omega
  have D5:Hid (Sq gL (fun b=>w.heap.size+2<=b/\b<w4.heap.size/\b≠rb) w4 (.slice a1 ln cc1) t.deps):=zH (D4.o.mono fun b hb=>⟨hb.1,by have:=Z4.o;omega,by have:=RB.o;omega⟩);have RN:Hid (w.heap.size+2<=rb):=zH (by have:=RB.o;have:=S2.o;omega);clear hd3 O4 D4 RB;go_wp2_with fail
  clear c3
  go_loopw [16] (fun i wr=>∃ k:Nat,k<=n/\i= .int .i64 k/\Aside ((∃ vals,mI (w.heap.size+2) wr rb cc3 t.effs k vals)/\wr.heap[w.heap.size]? =some (.cells #[.int .i64 t.node,.int .i64 t.seq,.slice a1 ln cc1,.slice (some ⟨rb,0,none⟩) n cc3] 82 (0,0))/\wr.heap[w.heap.size+1]? =some (.cells #[.int .i64 0,.int .i64 0,.slice none 0 0,.slice none 0 0] 82 (0,0))/\Sq gL (fun b=>w.heap.size+2<=b/\b<wr.heap.size/\b≠rb) wr (.slice a1 ln cc1) t.deps/\Below w.heap.size w wr)) (fun i _=>n-(intOf i).toNat)
  case atStart=>exact ⟨0,aL _,rfl,HL0.o,BX4.o,BZ4.o,D5.o,G4.o⟩
  case round=>
   obtain ⟨k,hk,rfl,hrel⟩:=hrel;obtain ⟨⟨vals,hl⟩,hbx,hbz,hdd,hgg⟩:=Aside.out hrel;have LA:=zH hl;have BX6:=zH hbx;have BZ6:=zH hbz;have D6:=zH hdd;have G6:=zH hgg;clear hrel hl hbx hbz hdd hgg
   by_cases hlt:k<n
   ·have hke:k<t.effs.length:=by rw [<-Iq.o];exact hlt
    have hxk:=getD_some hke;obtain ⟨dv,EA,SD⟩:=LA.o.at hxk;have HM:=zH (HX.o k hke);have Tq:=zH hxk;clear hke hxk;generalize t.effs.getD k default=x at*;obtain ⟨xa,xc,rfl,-,-,-,-⟩:=fM.parts (L:=jI) (SD.mono fun b hb=>hb.2.1);obtain ⟨xn,hxn⟩:∃ m,m=x.drops.length:=⟨_,rfl⟩;rw [<-hxn] at EA SD;obtain ⟨c0,c1,c2,c3,c4,c5,c6⟩:=EA;have hbe:=zB wr (.cells #[.int .i64 x.pos,.string (bt x.key),.string (bt x.field),.int .i64 x.kind,.string (bt x.elem),.int .i64 x.n,.slice xa xn xc] 85);have BE:=zH hbe;have EB:Hid ((wr.alloc (.cells #[.int .i64 x.pos,.string (bt x.key),.string (bt x.field),.int .i64 x.kind,.string (bt x.elem),.int .i64 x.n,.slice xa xn xc] 85)).cell? ⟨wr.heap.size,6,none⟩=some (.slice xa xn xc)):=zH (mY wr x xa xn xc).zero.2.2.2.2.2.2;have ZB:Hid ((wr.alloc (.cells #[.int .i64 x.pos,.string (bt x.key),.string (bt x.field),.int .i64 x.kind,.string (bt x.elem),.int .i64 x.n,.slice xa xn xc] 85)).heap.size=wr.heap.size+1):=zH (by simp);have SDB:Hid (Sq jI (fun b=>b<wr.heap.size/\b≠rb) (wr.alloc (.cells #[.int .i64 x.pos,.string (bt x.key),.string (bt x.field),.int .i64 x.kind,.string (bt x.elem),.int .i64 x.n,.slice xa xn xc] 85)) (.slice xa xn xc) x.drops):=zH ((SD.agree fun b hb=>hbe.block b hb.2.1).mono fun b hb=>hb.2);have hk1:(k:Int)<n:=by omega
    clear SD hbe hxn;go_upto_region 6 with fail
    clear c0 c1 c2 c3 c4 c5 c6;generalize (wr.alloc _)=wd at*;have LB:=zH (LA.o.below BE.o);have hw3:wd.cell? ⟨w.heap.size,3,none⟩=some (.slice (some ⟨rb,0,none⟩) n cc3):=cell_of_row _ _ 3 _ _ _ ((BE.o.block _ (aH.1 BX6.o).1).trans BX6.o);have NR:Hid (w.heap.size≠rb/\wr.heap.size≠rb):=zH ⟨by have:=RN.o;omega,by have:=LA.o.lt;omega⟩;have KE2:Hid (∀ u,jF (fun k=>k=rb) wd u ->jF (fun k=>k=rb) wd u/\u.cell? ⟨w.heap.size,3,none⟩=some (.slice (some ⟨rb,0,none⟩) n cc3)/\u.cell? ⟨wr.heap.size,6,none⟩=some (.slice xa xn xc)):=zH (fun u hb=>⟨hb,(aQ (a:=⟨w.heap.size,3,none⟩) (hb.block _ (aG wd _ hw3) NR.o.1)).trans hw3,(aQ (a:=⟨wr.heap.size,6,none⟩) (hb.block _ (by have:=ZB.o;show wr.heap.size<_;omega) NR.o.2)).trans EB.o⟩);have KD:=zH (Bb (w:=wd.drew) (xs:=x.drops) (u:= .slice xa xn xc) ((SDB.o.agree fun b _=>rfl).mono fun b hb=>by have:=ZB.o;show b<wd.drew.heap.size;show b<wd.heap.size;omega) HM.o);clear hw3;refine wp_region_held_drew (S:=fun u'=>jF (fun k=>k=rb) wd u'/\u'.cell? ⟨w.heap.size,3,none⟩=some (.slice (some ⟨rb,0,none⟩) n cc3)/\u'.cell? ⟨wr.heap.size,6,none⟩=some (.slice xa xn xc)) (by kernel_rfl) ?_ (fun hH=> ?_)
    ·(exact KE2.o _ ((jF.refl _ _).drawn 1))
    simp only [zS,aJ,Nat.reduceAdd]
    refine fJ 0 hH ?_;refine fJ 1 hH ?_;refine fJ 2 hH ?_;refine fJ 3 hH ?_;refine fJ 4 hH ?_;refine rd 5 fun K hK=> ?_
    go_simp
    refine KD.o.mono ?_;rintro e s1 ⟨v7,rfl,ho7,hb7⟩;have G7:Hid (Below wd.heap.size wd s1):=zH ((aj _ _).drew.trans hb7);have O7:=zH (ho7.new pX);obtain ⟨a7,c7,rfl,-,-,-,-⟩:=ho7.parts;refine hK.out _ _ (KE2.o _ (jF.of G7.o)) (fun hH=> ?_);clear hK K ho7 hb7 KD;refine fJ 6 hH ?_;refine fJ 7 hH ?_;have LC:=zH (LB.o.below G7.o);obtain ⟨dv6,EA6,-⟩:=LC.o.at Tq.o;have t6:=EA6.c6;have f6:=dh LC.o.own (k*7+6);clear EA6;refine rd 8 fun K hK=> ?_
    go_simp
    refine hK.out _ _ (KE2.o _ ((jF.of G7.o).trans (jF.set (F:=fun k=>k=rb) rfl) fun _ _ e=>e)) (fun hH=> ?_);clear hK K t6 f6;refine wpAnyH_done (by kernel_rfl) ?_ _;clear hH;have RBW:Hid (w.heap.size+2<=rb/\rb<wr.heap.size):=zH LA.o.lt;have OD:Hid (Sq jI (fun b=>w.heap.size+2<=b/\b<s1.heap.size/\b≠rb) s1 (.slice a7 x.drops.length c7) x.drops):=zH (O7.o.mono fun b hb=>by
     have h1:=RBW.o;have h2:=ZB.o;have h3:wd.heap.size<=b:=hb.1;exact ⟨by omega,hb.2,by omega⟩)
    have GW:Hid (Below wr.heap.size wr s1):=zH (BE.o.trans (G7.o.mono BE.o.size));go_wp2_with fail
    go_roundw
    case rel=>
     have sz:(s1.setCell ⟨rb,k*7+6,none⟩ (.slice a7 x.drops.length c7)).heap.size=s1.heap.size:=by simp [World.setCell]
     have hne:∀ b,b≠rb ->(s1.setCell ⟨rb,k*7+6,none⟩ (.slice a7 x.drops.length c7)).heap[b]? =s1.heap[b]? :=fun b e=>aN _ _ _ _ e
     have h1:=RBW.o;refine ⟨k+1,by omega,by go_num,⟨_,LC.o.set Tq.o OD.o⟩,(hne _ (by omega)).trans ((GW.o.block _ (by omega)).trans BX6.o),(hne _ (by omega)).trans ((GW.o.block _ (by omega)).trans BZ6.o),?_,(G6.o.trans (GW.o.mono G6.o.size)).setCell (by show w.heap.size<=rb;omega) _⟩;rw [sz];exact (D6.o.agree fun b hb=>(hne b hb.2.2).trans (GW.o.block b hb.2.1)).mono fun b hb=>⟨hb.1,ay hb.2.1 GW.o.size,hb.2.2⟩
    case measure=>simp [intOf];omega
   ·obtain rfl:k=n:=by omega
    have k0:wr.cell? ⟨w.heap.size,0,none⟩=some (.int .i64 t.node):=cell_of_row _ _ 0 _ _ _ BX6.o;have k1:wr.cell? ⟨w.heap.size,1,none⟩=some (.int .i64 t.seq):=cell_of_row _ _ 1 _ _ _ BX6.o;have k2:wr.cell? ⟨w.heap.size,2,none⟩=some (.slice a1 ln cc1):=cell_of_row _ _ 2 _ _ _ BX6.o;have k3:wr.cell? ⟨w.heap.size,3,none⟩=some (.slice (some ⟨rb,0,none⟩) k cc3):=cell_of_row _ _ 3 _ _ _ BX6.o;have r0:wr.cell? ⟨w.heap.size+1,0,none⟩=some (.int .i64 0):=cell_of_row _ _ 0 _ _ _ BZ6.o;have r1:wr.cell? ⟨w.heap.size+1,1,none⟩=some (.int .i64 0):=cell_of_row _ _ 1 _ _ _ BZ6.o;have r2:wr.cell? ⟨w.heap.size+1,2,none⟩=some (.slice none 0 0):=cell_of_row _ _ 2 _ _ _ BZ6.o;have r3:wr.cell? ⟨w.heap.size+1,3,none⟩=some (.slice none 0 0):=cell_of_row _ _ 3 _ _ _ BZ6.o;have f0:=jG BZ6.o 0;have f1:=jG BZ6.o 1;have f2:=jG BZ6.o 2;have f3:=jG BZ6.o 3;have LD:Hid (Sq jo (fun b=>w.heap.size+2<=b/\b<wr.heap.size) wr (.slice (some ⟨rb,0,none⟩) k cc3) t.effs):=zH (by have h6:=LA.o;rw [Iq.o] at h6 ⊢;exact h6.done);go_wp2_with fail
    obtain ⟨s0,s1,s2,s3⟩:=st4q BZ6.o;refine bodyPost_ret (v:= .agg #[.int .i64 t.node,.int .i64 t.seq,.slice a1 ln cc1,.slice (some ⟨rb,0,none⟩) k cc3]) (by simp [results,results205,go_sem,s0,s1,s2,s3]) rfl ⟨_,_,rfl,?_,?_,?_⟩
    ·exact sq4 (D6.o.mono fun b hb=>⟨by omega,hb.2.1,by omega⟩) _ _ _ _
    ·exact sq4 (LD.o.mono fun b hb=>⟨by omega,hb.2,by omega⟩) _ _ _ _
    ·exact (((G6.o.setCell (eZ _) _).setCell (eZ _) _).setCell (eZ _) _).setCell (eZ _) _
end Go.Proofs.YtfgcodcablpdcaaGreat