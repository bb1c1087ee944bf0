import Derived.Test.YtmknpmamkjjiaaaShelfS
import Derived.Test.YtmknpmamkjjiaaaGives
import Derived.Test.YtmknpmamkjjiaaaShelf
set_option linter.unusedVariables false
set_option maxRecDepth 100000
set_option maxHeartbeats 64000000
namespace Go.Proofs.Ytmknpmamkjjiaaa
open Go.Proofs.Try
open Go.RowKit Plain
theorem l5(s p:bL)(w:World):Calls prog 86 #[.string (bt s),.string (bt p)] w fun e w'=>e= .returned (.bool (jP s p))/\w'=w:=
 Try.strings_HasPrefix (bt s) (bt p) w
theorem lg(s p:bL)(w:World):Calls prog 86 #[.string (bt s),.string (bt p)] w fun e w'=>e= .returned (.bool (jP s p))/\w=w':=
 (l5 s p w).mono fun _ _ ⟨h,e⟩=>⟨h,e.symm⟩
theorem gI{v:Value}{zs:List bL}{w:World}(hv:dx w v zs)(hr:cK zs)(hn:zs.length<=1000000)(s:bL):
  ∃ k,k<=zs.length/\(∀ j,j<k ->zs.getD j []<s)/\(∀ j,k<=j ->j<zs.length ->¬ zs.getD j []<s)/\
  Calls prog 42 #[v,.string (bt s)] w fun e w'=>e= .returned (.tuple #[.int .i64 (k:Int),.bool (decide (k<zs.length/\zs.getD k []=s))])/\∃ q,w'=w.drewN q:=by
 obtain ⟨k,hk,h1,h2⟩:=parted hr s;refine ⟨k,hk,h1,h2,?_⟩
 by_cases h0:0<zs.length
 ·obtain ⟨b,o,c,rfl,-,-,-,hc⟩:=hv.spot h0
  have K:=Try.slices_BinarySearch_string b o zs.length c (fun j=>if j<zs.length then bt (zs.getD j []) else bt s) (bt s) w (by omega) (fun j hj=>by rw [hc j hj,if_pos hj];rfl);have e:Lib.bsGo (fun t=>Op.bytesLess ((fun j=>if j<zs.length then bt (zs.getD j []) else bt s) t).toList (bt s).toList) zs.length 0 zs.length=k:=by
   refine Lib.bsGo_spec _ k (fun t ht=> ?_) (fun t ht=> ?_) zs.length 0 zs.length (by omega) (aJ _) hk
   ·show Op.bytesLess (if t<zs.length then bt (zs.getD t []) else bt s).toList (bt s).toList=true
    rw [if_pos (by omega),oD,aB (h1 t ht)]
   ·show Op.bytesLess (if t<zs.length then bt (zs.getD t []) else bt s).toList (bt s).toList=false
    split
    ·rename_i h
     rw [oD,aA (h2 t ht h)]
    ·rw [oD,aA (lt_irrefl s)]
  rw [e] at K;refine K.mono fun _ _ ⟨h,hw⟩=>⟨?_,hw⟩
  rw [h];have ed:decide (k<zs.length/\(if k<zs.length then bt (zs.getD k []) else bt s)=bt s)=decide (k<zs.length/\zs.getD k []=s):=decide_eq_decide.2 ⟨fun ⟨g1,g2⟩=>by
   refine ⟨g1,?_⟩;rw [if_pos g1] at g2;exact zi g2,fun ⟨g1,g2⟩=>by
   refine ⟨g1,?_⟩;rw [if_pos g1,g2]⟩
  rw [<-ed]
 ·obtain rfl:zs=[]:=aF (by omega)
  obtain ⟨a,cap,rfl,-⟩:=hv.parts;obtain rfl:k=0:=by simpa using hk
  exact (Try.slices_BinarySearch_string_empty a cap (bt s) w).mono fun _ _ ⟨h,e⟩=>⟨h,0,e⟩
theorem qD{v:Value}{xs:List bL}{w:World}(hv:dx w v xs)(hx:xs.length<=1000000):Calls prog 88 #[v] w (yI w xs):=by
 obtain ⟨a,cap,rfl,g1,g2,g0,h⟩:=hv.parts
 cases a with
 |none=>
  obtain rfl:=g0 rfl;obtain rfl:xs=[]:=aF (by omega);exact (Try.slices_Clone_string_nil _ _ w).mono fun _ _ ⟨he,hw⟩=>⟨_,he,bP.nil _ _,by rw [hw];exact ak _ _⟩
 |some ad=>
  by_cases hp:0<xs.length
  ·obtain ⟨b,o,c,hv,-,-,-,hc⟩:=h.spot hp
   simp only [aG,Option.some.injEq] at hv
   obtain ⟨rfl,-,rfl⟩:=hv;refine (Try.slices_Clone_string b o xs.length cap (xs.map bt) w (by simp) (by omega) (fun j hj=> ?_)).mono fun _ _ ⟨v',he,ho,_,hb⟩=>⟨v',he,?_,hb⟩
   ·rw [List.length_map] at hj
    rw [hc j hj];simp [List.getD,hj,tv]
   ·unfold bP
    have e:((xs.map bt).take xs.length).map Value.string=xs.map tv:=by
     rw [List.take_of_length_le (by simp),List.map_map]
     rfl
    rw [e] at ho;exact ho
  ·obtain rfl:xs=[]:=aF (by omega)
   exact (Try.slices_Clone_string_zero ad cap w).mono fun _ _ ⟨v',he,ho,_,hb⟩=>⟨v',he,ho,hb⟩
theorem qE(fv:Value)(w:World):Calls prog 68 #[.slice none 0 0,fv] w fun e w'=>e= .returned (.slice none 0 0)/\w=w':=by
 have K:=Try.slices_IndexFunc_empty (α:=bL) none 0 fv w;go_enter func68,ntmps68
 go_wp2_with fail
 refine K.mono ?_;rintro e w' ⟨rfl,rfl⟩;go_wp2_with fail
 go_ret
 exact ⟨rfl,rfl⟩
theorem oF{B:Nat}{v:Value}{xs:List bL}{w0 w:World}(hv:oG B w v xs)(hb:Below B w0 w)(hB:B<=w.heap.size)(hx:xs.length<=1000000)(p:bL ->Bool)(g:Nat)(lb:Array Value)
  (eg:∀ args w,(callFunc g args).run prog w= .ok (.enter g args) w) (hp:∀ (W:World) (x:bL),Below B w0 W ->FnGives prog g lb #[tv x] (.bool (p x)) W):
  Calls prog 68 #[v,.func (.func g) #[] lb] w fun e w'=>∃ u,e= .returned u/\oG B w' u (xs.filter fun x=> !p x)/\Below B w0 w':=by
 rcases hv with ⟨rfl,rfl⟩|⟨k,off,c,rfl,h1,h2,h3,h4,h5⟩
 ·exact (qE _ w).mono fun e w' ⟨he,hw⟩=>⟨_,he,.inl ⟨rfl,rfl⟩,by rw [<-hw];exact hb⟩
 ·have hm:maxLen=9223372036854775807:=rfl
  have K:=Try.slices_DeleteFunc encStr (fun _=>rfl) p g lb eg [] Try.zeroValue9 k off c xs.toArray w (fun W x hW=>hp W x (hb.trans (hW.mono hB)))
   (fun n os dk x hd=>hp _ x (iJ hb hB h3 n os)) h5 (by simp;omega) (by simpa using h1)
  simp only [List.size_toArray] at K
  have hl:=List.length_filter_le (fun x=> !p x) xs;generalize xs.filter (fun x=> !p x)=F at*;refine K.mono fun e w' ⟨he,q,hw⟩=>⟨_,he,?_,?_⟩
  ·have hH:Sort.Holds encStr w' k off (F++List.replicate (xs.length-F.length) []).toArray:=by
    rw [hw,<-Sort.grow_empty (Sort.putRow _ _ _ _ _)];exact jG h5 (by rw [List.size_toArray,List.size_toArray,aP,bA];omega) h4 q #[]
   refine .inr ⟨k,off,c,rfl,by omega,h2,h3,?_,jX hH⟩;rw [hw,Sort.size_putRow];exact h4
  ·rw [hw,<-Sort.grow_empty (Sort.putRow _ _ _ _ _)]
   exact iJ hb hB h3 q #[]
end Go.Proofs.Ytmknpmamkjjiaaa