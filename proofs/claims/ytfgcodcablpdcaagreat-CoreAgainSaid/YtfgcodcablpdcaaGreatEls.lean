import Derived.Test.YtfgcodcablpdcaaGreatRows
import Derived.Lib.Hide
import Derived.Maps.AppendAt
import Derived.OpenShut
import Derived.Laws.AppendOwnNone
import Derived.BigQuiet
import Derived.WalkSmall
import Derived.Deep.OwnRows
import Derived.Deep.RegionHeld3
set_option linter.unusedVariables false
theorem _root_.Go.RowKit.Hid.o {p:Prop} (h:Go.RowKit.Hid p):p:=h
namespace Go.Proofs.YtfgcodcablpdcaaGreat
open Go.RowKit
abbrev ah:=@Nat.le_refl
abbrev aj:=@Below.refl
abbrev ak:=@Nat.le_trans
abbrev au:=@List.getElem?_eq_getElem
abbrev ay:=@Nat.lt_of_lt_of_le
abbrev aA:=@List.length_append
abbrev aB:=@heap_setCell_same
abbrev aC:=@Value.slice.injEq
abbrev aD:=@Bool.and_eq_true
abbrev aF:=@decide_eq_false
abbrev aG:=@World.block_lt_of_cell?
abbrev aH:=@Array.getElem?_eq_some_iff
abbrev aI:=@decide_eq_true
abbrev aJ:=@Nat.zero_add
abbrev aK:=@List.eq_nil_of_length_eq_zero
abbrev aL:=@Nat.zero_le
abbrev aM:=@heap_alloc_new
abbrev aN:=@Below.heap_setCell
abbrev aO:=@List.length_take
abbrev aP:=@List.getElem?_eq_some_iff
abbrev aQ:=@World.cell?_of_block
abbrev aR:=@List.all_eq_true
abbrev aS:=@Bool.true_and
abbrev aT:=@Nat.le_of_lt
abbrev aU:=@List.getElem_mem
abbrev aV:=@List.append_nil
abbrev aW:=@List.getElem?_eq_none
abbrev aX:=@List.length_set
abbrev aY:=@List.append_assoc
abbrev aZ:=@List.length_cons
abbrev bf:=@List.length_nil
abbrev bg:=@World.cell?_alloc_new
abbrev bq:=@List.take_length
abbrev bA:=@List.mem_append
abbrev bB:=@List.length_drop
abbrev bC:=@AllReadyH.cons
abbrev bD:=@List.mem_of_getElem?
abbrev bE:=@List.mem_singleton
abbrev bF:=@List.getElem_of_mem
abbrev bG:=@Nat.lt_succ_of_lt
abbrev bH:=@Bool.eq_false_iff
abbrev bI:=@World.ownsRow.cellAt
abbrev bJ:=@List.nil_append
abbrev bK:=@List.take_succ_eq_append_getElem
abbrev bL:=@List.mem_cons
abbrev bM:=@List.length_take_le
abbrev bN:=@Nat.mul_le_mul_right
abbrev bO:=@List.mem_of_mem_take
abbrev bP:=@Nat.add_assoc
abbrev bQ:=@World.ownsRow.stored
abbrev bR:=@of_decide_eq_true
abbrev bS:=@Option.some.injEq
abbrev bT:=@List.ext_getElem
abbrev bU:=@Bool.false_and
abbrev bV:=@World.grownBy.refl
abbrev bW:=@List.length_replicate
abbrev bX:=@DataW.trod_int
abbrev bY:=@List.mem_cons_of_mem
abbrev bZ:=@World.cell?_setCell_other
abbrev cu:=@Nat.sub_self
abbrev cB:=@Array.getElem?_toList
abbrev cK:=@And.intro
abbrev cO:=@List.any_eq_true
abbrev cZ:=@List.take_of_length_le
abbrev dh:=@World.ownsRow.frozenAt
abbrev dw:=@List.nodup_append
abbrev dx:=@List.getElem?_set
abbrev dA:=@AllReadyH.nil
abbrev dB:=@List.not_any_eq_all_not
abbrev dD:=@Int.le_refl
abbrev dF:=@List.any_eq_false
abbrev dG:=@Int.le_trans
abbrev dH:=@List.length_map
abbrev dI:=@List.getElem?_append_left
abbrev dJ:=@List.mem_iff_getElem
abbrev dK:=@List.length_take_le'
abbrev dL:=@List.getElem?_cons_succ
abbrev dM:=@Nat.succ_le_of_lt
abbrev dN:=@Option.some.inj
abbrev dO:=@Bool.eq_iff_iff
abbrev dP:=@Or.inr
abbrev dQ:=@List.filter_eq_self
abbrev dR:=@Nat.le_of_eq
abbrev dS:=@MapKept.run_getObj_map
abbrev dU:=@List.not_mem_nil
abbrev dV:=@List.mem_cons_self
abbrev dW:=@Classical.byContradiction
abbrev dX:=@Bool.or_eq_true
abbrev dY:=@Obj.cells.injEq
abbrev dZ:=@List.nodup_cons
abbrev eu:=@DataW.trod_string
abbrev eB:=@List.size_toArray
abbrev eF:=@List.ext_getElem?
abbrev eG:=@World.ownsRow_lit
abbrev eH:=@Array.length_toList
abbrev eO:=@Nat.mul_le_mul_left
abbrev eT:=@List.getElem_map
abbrev eX:=@List.getElem?_cons_zero
abbrev eY:=@Nat.mul_one
abbrev eZ:=@Nat.le_succ
abbrev fq:=@List.getElem?_toArray
abbrev fu:=@DataW.trod_struct
abbrev fA:=@World.drewN_drewN
abbrev fB:=@List.getD_eq_getElem?_getD
abbrev fC:=@List.getElem?_append_right
abbrev fD:=@IntWalk.i64_in
abbrev fE:=@List.Perm.refl
abbrev fF:=@Nat.add_zero
abbrev fG:=@World.ownsRow.lt
abbrev fH:=@List.drop_eq_getElem_cons
end Go.Proofs.YtfgcodcablpdcaaGreat
namespace Go.Proofs.YtfgcodcablpdcaaGreat.Plain
open Go.Proofs.Tryz
end Go.Proofs.YtfgcodcablpdcaaGreat.Plain
namespace Go.Proofs.YtfgcodcablpdcaaGreat
open Go.Proofs.Tryz
open Go.RowKit Plain
theorem tF{P:Program}{f:FuncId}{args:Array Value}{w:World}{n:Nat}{v:Value}
  (h:Calls P f args (w.drewN n) fun e w'=>e= .returned v/\w.drewN n=w'):Calls P f args (w.drewN n) fun e w''=>e= .returned v/\∃ m,w''=w.drewN m:=
 h.mono fun _ _ ⟨he,hm⟩=>⟨he,n,hm.symm⟩
theorem below_drewN{B:Nat}{w w':World}(h:Below B w w'):∀ n,Below B w (w'.drewN n)
 |0=>h
 |n+1=>(below_drewN h n).drew
theorem i64_in{n:Int}(h:(Lit.int .i64 n).wf=true): -9223372036854775808<=n/\n<=9223372036854775807:=by simpa [Lit.wf,IntKind.min,IntKind.max,IntKind.signed,IntKind.bits] using h
structure El(α:Type) where
 k:Nat
 E:TypeId
 S:TypeId
 zero:Value
 bytes:Nat
 R:(Nat ->Prop) ->World ->List Value ->α ->Prop
 pos:0<k
 small:bytes<=1024
 len:∀ {P w vs x},R P w vs x ->vs.length=k
 one:∀ {P w vs x},R P w vs x ->∀ u∈vs,u.oneCell'=true
 mono:∀ {P Q:Nat ->Prop} {w vs x},R P w vs x ->(∀ b,P b ->Q b) ->R Q w vs x
 agree:∀ {P:Nat ->Prop} {w w':World} {vs x},R P w vs x ->(∀ b,P b ->w'.heap[b]? =w.heap[b]?) ->R P w' vs x
 und:prog.underlying S=some (.slice E)
 info:(prog.info? E).map (fun i=>(i.zero,i.size,i.bytes))=some (some zero,k,bytes)
 tV:zero.cells.size=k
variable {α:Type} {L:El α}
def pt(k:Nat)(vals:List Value)(j:Nat):List Value:=(vals.drop (j*k)).take k
theorem lH{k:Nat}(vals:List Value)(j i:Nat)(hi:i<k):(pt k vals j)[i]? =vals[j*k+i]? :=by
 unfold pt;rw [List.getElem?_take,if_pos hi,List.getElem?_drop]
theorem pt_left{k:Nat}{vals news:List Value}{j n:Nat}(hl:vals.length=n*k)(hj:j<n):pt k (vals++news) j=pt k vals j:=by
 have h:(j+1)*k<=n*k:=Nat.mul_le_mul_right k hj;have e:(j+1)*k=j*k+k:=Nat.succ_mul j k;unfold pt;rw [List.drop_append_of_le_length (by omega),List.take_append_of_le_length (by rw [List.length_drop];omega)]
theorem pt_right{k:Nat}{vals news:List Value}{j n:Nat}(hl:vals.length=n*k):pt k (vals++news) (n+j)=pt k news j:=by
 unfold pt;rw [Nat.add_mul,<-hl,List.drop_append,List.drop_eq_nil_of_le (by omega),List.nil_append]
 congr 2
 omega
def Rows(L:El α)(P:Nat ->Prop)(w:World)(vals:List Value)(xs:List α):Prop:=vals.length=xs.length*L.k/\∀ j x,xs[j]? =some x ->L.R P w (pt L.k vals j) x
theorem Rows.nil(P:Nat ->Prop)(w:World):Rows L P w [] []:=⟨by simp,fun j x h=>by simp at h⟩
theorem Rows.append{P:Nat ->Prop}{w:World}{vals news:List Value}{xs ys:List α}(h:Rows L P w vals xs)(g:Rows L P w news ys):Rows L P w (vals++news) (xs++ys):=by
 refine ⟨by rw [List.length_append,List.length_append,h.1,g.1,Nat.add_mul],fun j x hj=> ?_⟩
 by_cases hlt:j<xs.length
 ·rw [List.getElem?_append_left hlt] at hj
  rw [pt_left h.1 hlt];exact h.2 j x hj
 ·rw [List.getElem?_append_right (by omega)] at hj
  have e:j=xs.length+(j-xs.length):=by omega
  rw [e,pt_right h.1];exact g.2 _ x hj
theorem Rows.Bc{P:Nat ->Prop}{w:World}{vs:List Value}{x:α}(h:L.R P w vs x):Rows L P w vs [x]:=by
 refine ⟨by rw [L.len h];simp,fun j y hj=> ?_⟩;have:j=0/\y=x:=by
  cases j with
  |zero=>simp at hj;exact ⟨rfl,hj.symm⟩
  |succ j=>simp at hj
 obtain ⟨rfl,rfl⟩:=this;unfold pt;rw [Nat.zero_mul,List.drop_zero,List.take_of_length_le (by rw [L.len h];exact Nat.le_refl _)];exact h
theorem Rows.mono{P Q:Nat ->Prop}{w:World}{vals:List Value}{xs:List α}(h:Rows L P w vals xs)(hq:∀ b,P b ->Q b):Rows L Q w vals xs:=⟨h.1,fun j x hj=>L.mono (h.2 j x hj) hq⟩
theorem Rows.agree{P:Nat ->Prop}{w w':World}{vals:List Value}{xs:List α}(h:Rows L P w vals xs)(hq:∀ b,P b ->w'.heap[b]? =w.heap[b]?):Rows L P w' vals xs:=⟨h.1,fun j x hj=>L.agree (h.2 j x hj) hq⟩
theorem Rows.take{P:Nat ->Prop}{w:World}{vals:List Value}{xs:List α}(h:Rows L P w vals xs)(m:Nat):Rows L P w (vals.take (m*L.k)) (xs.take m):=by
 refine ⟨?_,fun j x hj=> ?_⟩
 ·rw [List.length_take,List.length_take,h.1,<-Nat.mul_min_mul_right]
 ·rw [List.getElem?_take] at hj
  split at hj
  ·rename_i hlt
   have e:(j+1)*L.k=j*L.k+L.k:=Nat.succ_mul j L.k;have hle:(j+1)*L.k<=m*L.k:=Nat.mul_le_mul_right L.k hlt;have:pt L.k (vals.take (m*L.k)) j=pt L.k vals j:=by
    unfold pt;rw [List.drop_take,List.take_take]
    congr 1
    omega
   rw [this];exact h.2 j x hj
  ·cases hj
theorem Rows.drop{P:Nat ->Prop}{w:World}{vals:List Value}{xs:List α}(h:Rows L P w vals xs)(m:Nat):Rows L P w (vals.drop (m*L.k)) (xs.drop m):=by
 refine ⟨?_,fun j x hj=> ?_⟩
 ·rw [List.length_drop,List.length_drop,h.1,Nat.sub_mul]
 ·rw [List.getElem?_drop] at hj
  have:pt L.k (vals.drop (m*L.k)) j=pt L.k vals (m+j):=by
   unfold pt;rw [List.drop_drop,Nat.add_mul]
  rw [this];exact h.2 _ x hj
theorem Rows.cells{P:Nat ->Prop}{w:World}{vals:List Value}{xs:List α}(h:Rows L P w vals xs):∀ u∈vals,u.oneCell'=true:=by
 intro u hu;obtain ⟨i,hi,rfl⟩:=List.getElem_of_mem hu;have hp:=L.pos;have hj:i/L.k<xs.length:=by
  rw [Nat.div_lt_iff_lt_mul hp,<-h.1];exact hi
 have hr:=h.2 (i/L.k) _ (List.getElem?_eq_getElem hj);have e:i/L.k*L.k+i%L.k=i:=by rw [Nat.mul_comm];exact Nat.div_add_mod i L.k
 refine L.one hr _ (List.mem_of_getElem? (i:=i%L.k) ?_);rw [lH _ _ _ (Nat.mod_lt i hp),e,List.getElem?_eq_getElem hi]
def Sq(L:El α)(P:Nat ->Prop)(w:World)(v:Value)(xs:List α):Prop:=
 ∃ a cap vals,v= .slice a xs.length cap/\xs.length<=cap/\cap<=maxLen/\(a=none ->cap=0)/\Rows L P w vals xs/\
  (0<xs.length ->∃ b off,a=some ⟨b,off,none⟩/\P b/\∀ i u,vals[i]? =some u ->w.cell? ⟨b,off+i,none⟩=some u)
theorem Sq.mono{P Q:Nat ->Prop}{w:World}{v:Value}{xs:List α}(h:Sq L P w v xs)(hq:∀ b,P b ->Q b):Sq L Q w v xs:=by
 obtain ⟨a,cap,vals,e,h1,h2,h0,hr,h3⟩:=h;refine ⟨a,cap,vals,e,h1,h2,h0,hr.mono hq,fun hp=> ?_⟩;obtain ⟨b,off,ea,hb,hc⟩:=h3 hp;exact ⟨b,off,ea,hq b hb,hc⟩
theorem Sq.agree{P:Nat ->Prop}{w w':World}{v:Value}{xs:List α}(h:Sq L P w v xs)(hq:∀ b,P b ->w'.heap[b]? =w.heap[b]?):Sq L P w' v xs:=by
 obtain ⟨a,cap,vals,e,h1,h2,h0,hr,h3⟩:=h;refine ⟨a,cap,vals,e,h1,h2,h0,hr.agree hq,fun hp=> ?_⟩;obtain ⟨b,off,ea,hb,hc⟩:=h3 hp;exact ⟨b,off,ea,hb,fun i u hi=>(World.cell?_of_block (w:=w) (hq b hb)).trans (hc i u hi)⟩
def fM(L:El α)(w:World)(v:Value)(xs:List α):Prop:=Sq L (· <w.heap.size) w v xs
theorem fM.below'{N:Nat}{w w':World}{v:Value}{xs:List α}(h:fM L w v xs)(hb:Below N w w')(hN:w.heap.size<=N):fM L w' v xs:=
 (Sq.agree h fun b hlt=>hb.block b (Nat.lt_of_lt_of_le hlt hN)).mono fun b hlt=>Nat.lt_of_lt_of_le hlt hb.size
theorem fM.below{w w':World}{v:Value}{xs:List α}(h:fM L w v xs)(hb:Below w.heap.size w w'):fM L w' v xs:=h.below' hb (Nat.le_refl _)
theorem fM.iB{w:World}{v:Value}{xs:List α}(h:fM L w v xs)(o:Obj):fM L (w.alloc o) v xs:=h.below ((Below.refl _ _).alloc (Nat.le_refl _) _)
theorem fM.drawn{w:World}{v:Value}{xs:List α}(h:fM L w v xs)(n:Nat):fM L (w.drewN n) v xs:=h.below (below_drewN (Below.refl _ _) n)
theorem fM.nil(w:World):fM L w (.slice none 0 0) []:=⟨none,0,[],rfl,Nat.zero_le _,Nat.zero_le _,fun _=>rfl,Rows.nil _ _,fun h=>absurd h (by simp)⟩
theorem fM.empty(w:World)(a:Addr)(cap:Nat)(h:cap<=maxLen):fM L w (.slice (some a) 0 cap) []:=⟨some a,cap,[],rfl,Nat.zero_le _,h,(by simp),Rows.nil _ _,fun h=>absurd h (by simp)⟩
theorem fM.parts{w:World}{v:Value}{xs:List α}(h:fM L w v xs):∃ a cap,v= .slice a xs.length cap/\xs.length<=cap/\cap<=9223372036854775807/\(a=none ->cap=0)/\fM L w (.slice a xs.length cap) xs:=by
 have h':=h;obtain ⟨a,cap,vals,rfl,h1,h2,h0,-,-⟩:=h;exact ⟨a,cap,rfl,h1,h2,h0,h'⟩
theorem fM.iY{w:World}{a:Option Addr}{n cap:Nat}{xs:List α}(h:fM L w (.slice a n cap) xs):xs.length=n/\n<=cap/\cap<=9223372036854775807:=by
 obtain ⟨a',cap',vals,hv,h1,h2,-⟩:=h;simp only [Value.slice.injEq] at hv
 obtain ⟨rfl,rfl,rfl⟩:=hv;exact ⟨rfl,h1,h2⟩
theorem fM.spot{w:World}{v:Value}{xs:List α}(h:fM L w v xs)(hp:0<xs.length):∃ b o cap,v= .slice (some ⟨b,o,none⟩) xs.length cap/\xs.length<=cap/\cap<=9223372036854775807/\fM L w (.slice (some ⟨b,o,none⟩) xs.length cap) xs/\
  ∀ j x,xs[j]? =some x ->∃ vs,L.R (· <w.heap.size) w vs x/\∀ i u,vs[i]? =some u ->w.cell? ⟨b,o+(j*L.k+i),none⟩=some u:=by
 have h':=h;obtain ⟨a,cap,vals,rfl,h1,h2,h0,hr,h3⟩:=h;obtain ⟨b,o,rfl,hb,hc⟩:=h3 hp;refine ⟨b,o,cap,rfl,h1,h2,h',fun j x hj=>⟨_,hr.2 j x hj,fun i u hi=> ?_⟩⟩;have hik:i<L.k:=by
  have:=(List.getElem?_eq_some_iff.1 hi).1;rw [L.len (hr.2 j x hj)] at this;exact this
 rw [lH _ _ _ hik] at hi;exact hc _ u hi
theorem fM.first{w:World}{a:Option Addr}{n cap:Nat}{xs:List α}(h:fM L w (.slice a n cap) xs)(m:Nat)(hm:m<=n):fM L w (.slice a m cap) (xs.take m):=by
 obtain ⟨a',cap',vals,hv,h1,h2,h0,hr,h3⟩:=h;simp only [Value.slice.injEq] at hv
 obtain ⟨rfl,rfl,rfl⟩:=hv;have hl:(xs.take m).length=m:=by rw [List.length_take];omega
 refine ⟨a,cap,_,by rw [hl],by rw [hl];omega,h2,h0,hr.take m,fun hp=> ?_⟩;rw [hl] at hp;obtain ⟨b,off,rfl,hb,hc⟩:=h3 (by omega);refine ⟨b,off,rfl,hb,fun i u hi=>hc i u ?_⟩;rw [List.getElem?_take] at hi
 split at hi
 ·exact hi
 ·cases hi
def gy(L:El α)(B:Nat)(w:World)(v:Value)(xs:List α):Prop:=∃ vals,w.ownsRow B L.E L.k v xs.length vals/\Rows L (fun b=>b<w.heap.size/\v.ownBlock≠some b) w vals xs
theorem gy.nil(B:Nat)(w:World):gy L B w (.slice none 0 0) []:=⟨[],World.ownsRow_nil _ _ _ _,Rows.nil _ _⟩
theorem gy.lt{B:Nat}{w:World}{v:Value}{xs:List α}(h:gy L B w v xs):∀ k,v.ownBlock=some k ->B<=k/\k<w.heap.size:=by
 obtain ⟨vals,ho,-⟩:=h;exact World.ownsRow.lt ho
theorem gy.seq{B:Nat}{w:World}{v:Value}{xs:List α}(h:gy L B w v xs):fM L w v xs:=by
 have hlt:=h.lt;obtain ⟨vals,ho,hr⟩:=h;have hr':=hr.mono (Q:=(· <w.heap.size)) fun b hb=>hb.1
 rcases ho.2 with ⟨rfl,hn⟩|⟨g,cap,cur,rfl,hb,hg,hnc,hcm,hcs,htake⟩
 ·refine ⟨none,0,vals,by rw [hn],by omega,Nat.zero_le _,fun _=>rfl,hr',fun hp=>absurd hp (by omega)⟩
 ·refine ⟨_,cap,vals,rfl,hnc,hcm,(by simp),hr',fun hp=>⟨g,0,rfl,(hlt g rfl).2,fun i u hi=> ?_⟩⟩
  have hil:i<xs.length*L.k:=by rw [<-hr.1];exact (List.getElem?_eq_some_iff.1 hi).1
  rw [Nat.zero_add,World.ownsRow.cellAt ho i hil,hi]
theorem gy.mono{B C:Nat}{w:World}{v:Value}{xs:List α}(h:gy L B w v xs)(hc:C<=B):gy L C w v xs:=by
 obtain ⟨vals,ho,hr⟩:=h;refine ⟨vals,⟨ho.1,?_⟩,hr⟩
 rcases ho.2 with hn|⟨g,cap,cur,hv,hb,hg⟩
 ·exact .inl hn
 ·exact .inr ⟨g,cap,cur,hv,by omega,hg⟩
theorem gy.below{B N:Nat}{w w':World}{v:Value}{xs:List α}(h:gy L B w v xs)(hb:Below N w w')(hN:w.heap.size<=N):gy L B w' v xs:=by
 obtain ⟨vals,ho,hr⟩:=h;refine ⟨vals,⟨ho.1,?_⟩,(hr.agree fun b hq=>hb.block b (Nat.lt_of_lt_of_le hq.1 hN)).mono fun b hq=>⟨Nat.lt_of_lt_of_le hq.1 hb.size,hq.2⟩⟩
 rcases ho.2 with hn|⟨g,cap,cur,hv,hb',hg,hr'⟩
 ·exact .inl hn
 ·have hlt:g<w.heap.size:=(Array.getElem?_eq_some_iff.1 hg).1
  exact .inr ⟨g,cap,cur,hv,hb',(hb.block g (by omega)).trans hg,hr'⟩
theorem gy.alloc{B:Nat}{w:World}{v:Value}{xs:List α}(h:gy L B w v xs)(o:Obj):gy L B (w.alloc o) v xs:=h.below ((Below.refl w.heap.size w).alloc (Nat.le_refl _) o) (Nat.le_refl _)
theorem gy.empty(w:World)(B:Nat)(hB:B<=w.heap.size):gy L B (w.alloc (.cells #[] L.E)) (.slice (some ⟨w.heap.size,0,none⟩) 0 0) []:=
 ⟨[],World.ownsRow_made w #[] 0 hB (Nat.zero_le _) (by simp),Rows.nil _ _⟩
theorem gy.parts{B:Nat}{w:World}{v:Value}{xs:List α}(h:gy L B w v xs):∃ a cap,v= .slice a xs.length cap/\xs.length<=cap/\cap<=9223372036854775807/\gy L B w (.slice a xs.length cap) xs/\(a=none ->cap=0):=by
 obtain ⟨a,cap,rfl,h1,h2,h0,hs⟩:=h.seq.parts;exact ⟨a,cap,rfl,h1,h2,h,h0⟩
theorem gy.at{B:Nat}{w:World}{v:Value}{xs:List α}(h:gy L B w v xs)(n:Nat)(hn:xs.length=n):∃ a cap,v= .slice a n cap/\(n:Int)<=cap/\(cap:Int)<=9223372036854775807/\gy L B w (.slice a n cap) xs:=by
 subst hn;obtain ⟨a,cap,rfl,h1,h2,h3,-⟩:=h.parts;exact ⟨a,cap,rfl,by omega,by omega,h3⟩
theorem fM.lit(w:World)(C:Array Value)(xs:List α)(hr:Rows L (· <w.heap.size) w C.toList xs)(hl:xs.length<=1000000):fM L (w.alloc (.cells C L.E)) (.slice (some ⟨w.heap.size,0,none⟩) xs.length xs.length) xs:=by
 have hb:=(Below.refl w.heap.size w).alloc (Nat.le_refl _) (.cells C L.E);refine ⟨_,xs.length,C.toList,rfl,Nat.le_refl _,by unfold maxLen;omega,(by simp),(hr.agree fun b h=>hb.block b h).mono fun b h=>by simp;omega,fun hp=>⟨w.heap.size,0,rfl,by simp,fun i u hi=> ?_⟩⟩;rw [Nat.zero_add];rw [Array.getElem?_toList] at hi;simp only [World.cell?_alloc_new,hi]
theorem fM.one{w:World}{vs:List Value}{x:α}(hr:L.R (· <w.heap.size) w vs x)(C:Array Value)(hC:C.toList=vs):fM L (w.alloc (.cells C L.E)) (.slice (some ⟨w.heap.size,0,none⟩) 1 1) [x]:=
 fM.lit w C [x] (by rw [hC];exact Rows.Bc hr) (by simp)
def vQ(L:El α)(w:World)(xs:List α)(e:Ending)(w':World):Prop:=∃ v,e= .returned v/\gy L w.heap.size w' v xs/\Below w.heap.size w w'
def Flat(L:El α):Prop:=∀ {P Q:Nat ->Prop} {w w':World} {vs:List Value} {x:α},L.R P w vs x ->L.R Q w' vs x
theorem Co(L:El α):∃ i,prog.info? L.E=some i/\i.zero=some L.zero/\i.size=L.k/\i.bytes=L.bytes:=by
 have h:=L.info
 cases hi:prog.info? L.E with
 |none=>rw [hi] at h;simp at h
 |some i=>
  rw [hi] at h;simp at h
  exact ⟨i,rfl,h.1,h.2.1,h.2.2⟩
theorem JW{w:World}(B:Nat)(ty:TypeId){v u:Value}{xs ys:List α}(hown:gy L B w v xs){Q:Nat ->Prop}(hseq:Sq L Q w u ys)
  (hI:∀ vs x,L.R Q w vs x ->L.R (fun b=>b<w.heap.size/\v.ownBlock≠some b) w vs x) (hlen:xs.length+ys.length<=1073741824) (hbase:B<=w.heap.size):
  ∃ v' w',(Builtin.append_ #[L.S,L.S] ty #[v,u]).run prog w= .ok v' w'/\gy L B w' v' (xs++ys)/\w.grownBy w' v.ownBlock/\(v'.ownBlock=v.ownBlock\/v'.ownBlock=some w.heap.size):=by
 obtain ⟨i0,hi,hz0,hz1,hz2⟩:=Co L;have hlt:=hown.lt;obtain ⟨vals,ho,hr⟩:=hown;obtain ⟨a,cap,news,rfl,h1,h2,h0,hn,h3⟩:=hseq;have hn':Rows L (fun b=>b<w.heap.size/\v.ownBlock≠some b) w news ys:=⟨hn.1,fun j x hj=>hI _ _ (hn.2 j x hj)⟩;have hsm:=L.small
 cases a with
 |none=>
  obtain rfl:=h0 rfl;obtain rfl:ys=[]:=List.eq_nil_of_length_eq_zero (by omega);refine ⟨v,w,run_append_owned_none (P:=prog) (w:=w) B L.S ty L.E i0 L.k L.und hi v _ _ ho,?_,World.grownBy.refl _ _,.inl rfl⟩;rw [List.append_nil];exact ⟨vals,ho,hr⟩
 |some ad=>
  have hbytes:(xs.length+ys.length)*L.bytes<=140737488355328:=by
   have:=Nat.mul_le_mul hlen hsm;omega
  obtain ⟨v',w',hrun,ho',hg,-,hat⟩:=run_append_own_at (P:=prog) w B L.S ty L.E i0 L.zero L.k L.bytes L.und hi hz0 hz1 hz2 L.tV L.pos v _ _ ho ad ys.length cap news hn.1 (fun j u hu=>by
    have hp:0<ys.length:=by
     have h:=(List.getElem?_eq_some_iff.1 hu).1;rw [hn.1] at h
     rcases Nat.eq_zero_or_pos ys.length with e|e
     ·rw [e,Nat.zero_mul] at h;omega
     ·exact e
    obtain ⟨b,off,he,hc⟩:=h3 hp
    cases he
    rw [Addr.add_lit];exact hc.2 j u hu) (Rows.cells hn) (by unfold maxLen;omega) hbytes hbase
  refine ⟨v',w',hrun,⟨vals++news,by rw [List.length_append];exact ho',?_⟩,hg,hat⟩;refine (((hr.append hn').agree fun b hq=>hg.block b hq.1 fun e=>hq.2 e.symm).mono fun b hq=>⟨Nat.lt_of_lt_of_le hq.1 hg.size,?_⟩)
  rcases hat with e|e
  ·rw [e];exact hq.2
  ·rw [e]
   intro e2;have:=hq.1
   cases e2
   omega
theorem gT{w:World}{ops:Array Oper}{rest:List Oper}{o:Oper}{act:Act}{Q:Exit ->Act ->World ->Prop}(L:El α)(hgd:o.guard=none)(s x:Operand)
  (ho:o.op= .call {callee:= .builtin .append,args:=#[s,x],argTypes:=#[L.S,L.S]}) (B:Nat) {v u:Value} {xs ys:List α}
  (hs:act.eval s=v) (hown:gy L B w v xs) (hx:act.eval x=u) {K:Nat ->Prop} (hseq:Sq L K w u ys) (hI:∀ vs x,L.R K w vs x ->L.R (fun b=>b<w.heap.size/\v.ownBlock≠some b) w vs x) (hlen:xs.length+ys.length<=1073741824) (hbase:B<=w.heap.size)
  (h:∀ v' w',gy L B w' v' (xs++ys) ->w.grownBy w' v.ownBlock ->(v'.ownBlock=v.ownBlock\/v'.ownBlock=some w.heap.size) ->wpList prog ops Q rest (act.put o.dst v') w'):wpList prog ops Q (o::rest) act w:=by
 refine wpList_plain hgd fun K hK=> ?_
 obtain ⟨v',w',hr,h2,h3,h4⟩:=JW B o.type hown hseq hI hlen hbase;unfold Oper.wp execOp;simp only [ho,resolve,invoke,builtin,Sem.run_bind,Sem.run_pure,Result.andThen_ok,List.map_toArray,List.map_cons,List.map_nil,hs,hx,hr]
 exact hK _ _ (h v' w' h2 h3 h4)
theorem iM{w u u':World}{R:Prop}(h:Below w.heap.size w u/\R)(hb:Below u.heap.size u u'):Below w.heap.size w u':=h.1.trans (hb.mono h.1.size)
theorem gy.new{B:Nat}{w:World}{v:Value}{xs:List α}(hf:Flat L)(h:gy L B w v xs):Sq L (fun b=>B<=b/\b<w.heap.size) w v xs:=by
 have hlt:=h.lt;obtain ⟨vals,ho,hr⟩:=h;have hr':Rows L (fun b=>B<=b/\b<w.heap.size) w vals xs:=⟨hr.1,fun j x hj=>hf (hr.2 j x hj)⟩
 rcases ho.2 with ⟨rfl,hn⟩|⟨g,cap,cur,rfl,hb,hg,hnc,hcm,hcs,htake⟩
 ·refine ⟨none,0,vals,by rw [hn],by omega,Nat.zero_le _,fun _=>rfl,hr',fun hp=>absurd hp (by omega)⟩
 ·refine ⟨_,cap,vals,rfl,hnc,hcm,(by simp),hr',fun hp=>⟨g,0,rfl,hlt g rfl,fun i u hi=> ?_⟩⟩
  have hil:i<xs.length*L.k:=by rw [<-hr.1];exact (List.getElem?_eq_some_iff.1 hi).1
  rw [Nat.zero_add,World.ownsRow.cellAt ho i hil,hi]
theorem Sq.seq{B:Nat}{w:World}{v:Value}{xs:List α}(h:Sq L (fun b=>B<=b/\b<w.heap.size) w v xs):fM L w v xs:=h.mono fun _ hb=>hb.2
theorem Sq.grown{B:Nat}{w w':World}{v:Value}{xs:List α}{row:Option Nat}(h:Sq L (fun b=>B<=b/\b<w.heap.size) w v xs)(hg:w.grownBy w' row)(hr:∀ k,row=some k ->k<B):fM L w' v xs:=
 (Sq.agree h fun b hb=>hg.block b hb.2 fun e=>by have:=hr b e.symm;omega).mono fun b hb=>Nat.lt_of_lt_of_le hb.2 hg.size
theorem tkA{P:Program}{ops:Array Oper}{Q:Exit ->Act ->World ->Prop}{md:Region.Mode}{S:World ->Prop}{i:Nat}{oi:Oper}{v:Value}{fuel:Nat}{listed:Array Bool}{a:Act}{w:World}(hi:ops[i]? =some oi)(hb:(Region.noSelect ops&&(Region.free md ops listed i&&(Region.ready md ops listed).contains i))=true)
 (hQ:∀ c a w,Q (.panic c) (a.put oi.dst v) w ->Q (.panic c) a w) (hy:YieldsIf P ops S oi v a) (hS:S w) (h:wpAnyH P md ops Q S fuel (listed.setIfInBounds i true) (a.put oi.dst v) w):wpAnyH P md ops Q S (fuel+1) listed a w:=by
 rw [Bool.and_eq_true,Bool.and_eq_true] at hb;exact wpAnyH_take hi hb.1 hb.2.1 hb.2.2 hQ hy hS h
theorem nz.{u}{α:Type u}:(∀ (l:List α) (i:Nat) (h:i<l.toArray.size),l.toArray[i]'h=l[i]'(by simpa using h))/\(∀ (a:α) (l:List α) (h:0<(a::l).length),(a::l)[0]'h=a)/\(∀ (a:α) (l:List α) (i:Nat) (h:i+1<(a::l).length),(a::l)[i+1]'h=l[i]'(by simpa using h))/\(∀ (l:List α) (i:Nat) (a:α),l.toArray.setIfInBounds i a=(l.set i a).toArray)/\(∀ (a b:α) (l:List α),(a::l).set 0 b=b::l)/\∀ (a b:α) (l:List α) (i:Nat),(a::l).set (i+1) b=a::l.set i b:=
 ⟨fun _ _ _=>by simp,fun _ _ _=>rfl,fun _ _ _ _=>rfl,fun _ _ _=>by simp,fun _ _ _=>rfl,fun _ _ _ _=>rfl⟩
theorem fJ(i:Nat){P:Program}{ops:Array Oper}{Q:Exit ->Act ->World ->Prop}{md:Region.Mode}{S:World ->Prop}{oi:Oper}{v:Value}{fuel:Nat}{l l':Array Bool}{a a':Act}{w:World}(hS:S w)(h:wpAnyH P md ops Q S fuel l' a' w)
 (hi:ops[i]? =some oi:=by rfl) (hb:(Region.noSelect ops&&(Region.free md ops l i&&(Region.ready md ops l).contains i))=true:=by kernel_rfl) (hw:Region.wanted oi (yielded ops a.tmps)=true:=by rfl) (hy:∀ w,S w ->(execOp a.eval oi).run P w= .ok (.value v) w:=by (intro w' hSw;(try dsimp only at hSw);go_simp;try with_reducible rfl))
 (hl:l.setIfInBounds i true=l':=by ((try simp only [nz]);rfl)) (ha:a.put oi.dst v=a':=by ((try simp only [nz,Act.put]);rfl)) (hQ:∀ c a w,Q (.panic c) (a.put oi.dst v) w ->Q (.panic c) a w:=by exact fun _ _ _ h=>h):wpAnyH P md ops Q S (fuel+1) l a w:=by
 subst hl ha;rw [Bool.and_eq_true,Bool.and_eq_true] at hb;exact wpAnyH_take hi hb.1 hb.2.1 hb.2.2 hQ (Or.inl ⟨hw,hy⟩) hS h
theorem gq(i:Nat){P:Program}{ops:Array Oper}{Q:Exit ->Act ->World ->Prop}{md:Region.Mode}{S:World ->Prop}{oi:Oper}{fuel:Nat}{l l':Array Bool}{a a':Act}{w:World}(hS:S w)(h:wpAnyH P md ops Q S fuel l' a' w)
 (hi:ops[i]? =some oi:=by rfl) (hb:(Region.noSelect ops&&(Region.free md ops l i&&(Region.ready md ops l).contains i))=true:=by kernel_rfl) (hw:Region.wanted oi (yielded ops a.tmps)=false:=by rfl)
 (hl:l.setIfInBounds i true=l':=by ((try simp only [nz]);rfl)) (ha:a.put oi.dst undef=a':=by ((try simp only [nz,Act.put]);rfl)) (hQ:∀ c a w,Q (.panic c) (a.put oi.dst undef) w ->Q (.panic c) a w:=by exact fun _ _ _ h=>h):wpAnyH P md ops Q S (fuel+1) l a w:=by
 subst hl ha;rw [Bool.and_eq_true,Bool.and_eq_true] at hb;exact wpAnyH_take hi hb.1 hb.2.1 hb.2.2 hQ (Or.inr ⟨hw,rfl⟩) hS h
theorem zH{p:Prop}(h:p):Hid p:=h
theorem zB(w:World)(o:Obj):Below w.heap.size w (w.alloc o):=(Below.refl _ _).alloc (Nat.le_refl _) o
theorem zS.{u}{α:Type u}:(∀ l:List α,l.toArray.size=l.length)/\(∀ (a:α) (l:List α),(a::l).length=l.length+1)/\([]:List α).length=0:=⟨fun _=>by simp,fun _ _=>rfl,rfl⟩
theorem rd(i:Nat){P:Program}{ops:Array Oper}{Q:Exit ->Act ->World ->Prop}{md:Region.Mode}{S:World ->Prop}{oi:Oper}{fuel:Nat}{l:Array Bool}{a:Act}{w:World}(h:∀ K':Act ->World ->Prop,Shut (∀ a w,S w ->(S w ->wpAnyH P md ops Q S fuel (l.setIfInBounds i true) a w) ->K' a w) ->if Region.wanted oi (yielded ops a.tmps)=true then Oper.wp P oi a w K' Q else K' (a.put oi.dst undef) w)
 (ho:ops[i]? =some oi:=by rfl) (hr:Region.ready md ops l=[i]:=by kernel_rfl):wpAnyH P md ops Q S (fuel+1) l a w:=wpAnyH_ready hr (by simp) (AllReadyH.cons ho h AllReadyH.nil)
theorem JX(w:World)(node seq:Int)(da:Option Addr)(dn dc:Nat)(ea:Option Addr)(en ec:Nat):(w.alloc (.cells #[.int .i64 node,.int .i64 seq,.slice da dn dc,.slice ea en ec] 82)).cell? ⟨w.heap.size,0,none⟩=some (.int .i64 node)/\(w.alloc (.cells #[.int .i64 node,.int .i64 seq,.slice da dn dc,.slice ea en ec] 82)).cell? ⟨w.heap.size,1,none⟩=some (.int .i64 seq)/\(w.alloc (.cells #[.int .i64 node,.int .i64 seq,.slice da dn dc,.slice ea en ec] 82)).cell? ⟨w.heap.size,2,none⟩=some (.slice da dn dc)/\(w.alloc (.cells #[.int .i64 node,.int .i64 seq,.slice da dn dc,.slice ea en ec] 82)).cell? ⟨w.heap.size,3,none⟩=some (.slice ea en ec):=⟨by simp,by simp,by simp,by simp⟩
theorem JY{w1:World}{g:Nat}{v0 v1 v2 v3:Value}(c:w1.cell? ⟨g,0,none⟩=some v0/\w1.cell? ⟨g,1,none⟩=some v1/\w1.cell? ⟨g,2,none⟩=some v2/\w1.cell? ⟨g,3,none⟩=some v3)(z:g<w1.heap.size)(u:World)(hu:Below w1.heap.size w1 u):Below w1.heap.size w1 u/\u.cell? ⟨g,0,none⟩=some v0/\u.cell? ⟨g,1,none⟩=some v1/\u.cell? ⟨g,2,none⟩=some v2/\u.cell? ⟨g,3,none⟩=some v3:=⟨hu,(hu.cell (p:=⟨g,0,none⟩) z).trans c.1,(hu.cell (p:=⟨g,1,none⟩) z).trans c.2.1,(hu.cell (p:=⟨g,2,none⟩) z).trans c.2.2.1,(hu.cell (p:=⟨g,3,none⟩) z).trans c.2.2.2⟩
end Go.Proofs.YtfgcodcablpdcaaGreat