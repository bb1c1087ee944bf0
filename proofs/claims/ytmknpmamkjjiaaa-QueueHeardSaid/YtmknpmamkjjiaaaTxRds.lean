import Derived.Test.YtmknpmamkjjiaaaTxIns
set_option linter.unusedVariables false
namespace Go.Proofs.Ytmknpmamkjjiaaa.Plain
end Go.Proofs.Ytmknpmamkjjiaaa.Plain
namespace Go.Proofs.Ytmknpmamkjjiaaa
open Go.RowKit Plain
structure But(g:Nat)(w w':World):Prop where
 below:Below g w w'
 block:∀ k,k<w.heap.size ->k≠g ->w'.heap[k]? =w.heap[k]?
theorem But.trans{g:Nat}{a b c:World}(h:But g a b)(k:But g b c):But g a c:=
 ⟨h.below.trans k.below,fun j hj hne=>(k.block j (aK hj h.below.size) hne).trans (h.block j hj hne)⟩
theorem But.of{g:Nat}{w w':World}(h:Below w.heap.size w w')(hg:g<=w.heap.size):But g w w':=⟨h.mono hg,fun k hk _=>h.block k hk⟩
theorem But.set(g:Nat)(w:World)(i:Nat)(v:Value):But g w (w.setCell ⟨g,i,none⟩ v):=
 ⟨(ak g w).setCell (aj _) v,fun k _ hne=>aH _ _ _ _ hne⟩
theorem But.then{g:Nat}{a b c:World}(h:But g a b)(k:Below b.heap.size b c)(hg:g<=b.heap.size):But g a c:=h.trans (But.of k hg)
theorem But.size{g:Nat}{w w':World}(h:But g w w'):w.heap.size<=w'.heap.size:=h.below.size
theorem cB.but{α:Type}{L:El α}(hf:Flat L){B g:Nat}{w w':World}{v:Value}{xs:List α}(h:cB L B w v xs)(hb:But g w w')(hg:g<B):cB L B w' v xs:=by
 obtain ⟨vals,ho,hr⟩:=h;refine ⟨vals,⟨ho.1,?_⟩,⟨hr.1,fun j x hj=>hf (hr.2 j x hj)⟩⟩
 rcases ho.2 with hn|⟨g',cap,cur,hv,hb',hg',hr'⟩
 ·exact .inl hn
 ·have hlt:g'<w.heap.size:=(au.1 hg').1
  exact .inr ⟨g',cap,cur,hv,hb',(hb.block g' hlt (by omega)).trans hg',hr'⟩
theorem bT.but{α:Type}{L:El α}{J:Nat ->Prop}{B g:Nat}{w w':World}{v:Value}{xs:List α}(h:bT J L B w v xs)(hb:But g w w')(hg:g<B)(hj:∀ b,J b ->b≠g):bT J L B w' v xs:=
 h.kept hb.size fun b hl hq=>hb.block b hl (hq.elim (hj b) fun k=>by omega)
theorem wT(w:World)(R:Nat)(v0 v1 v2 v3:Value):But R w (st4 w R v0 v1 v2 v3):=(((But.set R w 0 v0).trans (But.set R _ 1 v1)).trans (But.set R _ 2 v2)).trans (But.set R _ 3 v3)
end Go.Proofs.Ytmknpmamkjjiaaa