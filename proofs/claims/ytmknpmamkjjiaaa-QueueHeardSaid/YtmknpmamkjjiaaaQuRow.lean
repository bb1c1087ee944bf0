import Derived.Test.YtmknpmamkjjiaaaQueue
set_option linter.unusedVariables false
namespace Go.Proofs.Ytmknpmamkjjiaaa
open Go.RowKit Plain
def vU(w:World)(t:bK)(e:Ending)(w':World):Prop:=∃ u,e= .returned u/\bV (fun b=>w.heap.size<=b/\b<w'.heap.size) w' u t/\Below w.heap.size w w'
def oo(w:World)(m:Int)(l:List bK)(e:Ending)(w':World):Prop:=∃ a n c,e= .returned (.agg #[.int .i64 m,.slice a n c])/\l.length=n/\bT (fun b=>w.heap.size<=b) dJ w.heap.size w' (.slice a n c) l/\Below w.heap.size w w'
def kS(w:World)(q:bM)(e:Ending)(w':World):Prop:=oo w q.most q.list e w'
def oq(w:World)(m:Int)(l:List bK)(x:Int)(e:Ending)(w':World):Prop:=∃ a n c,e= .returned (.tuple #[.agg #[.int .i64 m,.slice a n c],.int .i64 x])/\l.length=n/\bT (fun b=>w.heap.size<=b) dJ w.heap.size w' (.slice a n c) l/\Below w.heap.size w w'
def qx(w:World)(q:bM)(x:Int)(e:Ending)(w':World):Prop:=oq w q.most q.list x e w'
theorem bV.deps{Q:Nat ->Prop}{w:World}{t:bK}{a b dv ev:Value}(h:bV Q w (.agg #[a,b,dv,ev]) t):Sq fD Q w dv t.deps:=by
 obtain ⟨d,e,h1,h2,h3⟩:=h;simp only [Value.agg.injEq,Array.mk.injEq,List.cons.injEq] at h1
 obtain ⟨-,-,rfl,rfl,-⟩:=h1;exact h2
theorem bV.dh{Q:Nat ->Prop}{w:World}{t:bK}{a b dv ev:Value}(h:bV Q w (.agg #[a,b,dv,ev]) t):Sq d9 Q w ev t.dh:=by
 obtain ⟨d,e,h1,h2,h3⟩:=h;simp only [Value.agg.injEq,Array.mk.injEq,List.cons.injEq] at h1
 obtain ⟨-,-,rfl,rfl,-⟩:=h1;exact h3
theorem bT.nu{α:Type}{L:El α}{N:Nat}{w:World}{v:Value}{xs:List α}(h:bT (fun b=>N<=b) L N w v xs):Sq L (fun b=>N<=b/\b<w.heap.size) w v xs:=h.sq fun b h _=>h
theorem dG{α:Type}{w:World}{ops:Array Oper}{o:Oper}{act:Act}{K:Act ->World ->Prop}{Q:Exit ->Act ->World ->Prop}{E:Prop}(J:Nat ->Prop)(L:El α)(hw:Region.wanted o (yielded ops act.tmps)=true)(s x:Operand)
  (ho:o.op= .call {callee:= .builtin .append,args:=#[s,x],argTypes:=#[L.S,L.S]}) (B:Nat) {v u:Value} {xs ys:List α}
  (hs:act.eval s=v) (hown:bT J L B w v xs) (hx:act.eval x=u) {K':Nat ->Prop} (hseq:Sq L K' w u ys) (hI:∀ vs x,L.R K' w vs x ->L.R (fun b=>J b/\b<w.heap.size/\v.ownBlock≠some b) w vs x) (hlen:xs.length+ys.length<=1073741824) (hbase:B<=w.heap.size)
  (h:∀ v' w',bT J L B w' v' (xs++ys) ->w.grownBy w' v.ownBlock ->(v'.ownBlock=v.ownBlock\/v'.ownBlock=some w.heap.size) ->K (act.put o.dst v') w'):if Region.wanted o (yielded ops act.tmps)=true then Oper.wp Try.prog o act w K Q else E:=by
 rw [if_pos hw];obtain ⟨v',w',hr,h2,h3,h4⟩:=iq J B o.type hown hseq hI hlen hbase;unfold Oper.wp execOp;simp only [ho,resolve,invoke,builtin,Sem.run_bind,Sem.run_pure,Result.andThen_ok,List.map_toArray,List.map_cons,List.map_nil,hs,hx,hr]
 exact h v' w' h2 h3 h4
theorem bT.mZ{α:Type}{L:El α}{J:Nat ->Prop}{B:Nat}{w w':World}{v:Value}{xs:List α}(h:bT J L B w v xs)(hs:w.heap.size<=w'.heap.size)(hb:∀ b,b<w.heap.size ->(J b\/v.ownBlock=some b) ->w'.heap[b]? =w.heap[b]?):bT J L B w' v xs:=by
 have hlt:=h.lt;obtain ⟨vals,ho,hr⟩:=h;refine ⟨vals,⟨ho.1,?_⟩,(hr.agree fun b hq=>hb b hq.2.1 (.inl hq.1)).mono fun b hq=>⟨hq.1,aK hq.2.1 hs,hq.2.2⟩⟩
 rcases ho.2 with hn|⟨g,cap,cur,hv,hb',hg,hr'⟩
 ·exact .inl hn
 ·exact .inr ⟨g,cap,cur,hv,hb',(hb g (au.1 hg).1 (.inr (by rw [hv];rfl))).trans hg,hr'⟩
theorem bT.lower{α:Type}{L:El α}{J:Nat ->Prop}{B:Nat}{w:World}{v:Value}{xs:List α}(h:bT J L B w v xs):bT (fun b=>J b/\b<w.heap.size) L B w v xs:=by
 obtain ⟨vals,ho,hr⟩:=h;exact ⟨vals,ho,hr.mono fun b hq=>⟨⟨hq.1,hq.2.1⟩,hq.2⟩⟩
structure rZ(w:World)(m:Int)(a:Option Addr)(k c:Nat)(xs:List bK)(u:World):Prop where
 low:Below w.heap.size w u
 rb:dA (w.heap.size+1) 0 none 0 0 u
 lb:dA (w.heap.size+2) m a k c u
 len:xs.length=k
 ow:bT (fun b=>w.heap.size+3<=b) dJ (w.heap.size+3) u (.slice a k c) xs
theorem rZ.below{w u u':World}{m:Int}{a:Option Addr}{k c:Nat}{xs:List bK}(h:rZ w m a k c xs u)(hb:Below u.heap.size u u'):rZ w m a k c xs u':=
 ⟨h.low.trans (hb.mono h.low.size),h.rb.below hb,h.lb.below hb,h.len,h.ow.below hb (aj _)⟩
def qc(m:Int)(a:Option Addr)(n c:Nat):Obj:= .cells #[.int .i64 m,.slice a n c] 26
theorem vW(w:World)(m:Int)(la:Option Addr)(n lc:Nat):rZ w m none 0 0 [] (((w.alloc (.cells #[.int .i64 m,.slice la n lc] 26)).alloc (.cells #[.int .i64 0,.slice none 0 0] 26)).alloc (.cells #[.int .i64 m,.slice none 0 0] 26)):=by
 show rZ w m none 0 0 [] (((w.alloc (qc m la n lc)).alloc (qc 0 none 0 0)).alloc (qc m none 0 0))
 have z1:(w.alloc (qc m la n lc)).heap.size=w.heap.size+1:=by simp
 have z2:((w.alloc (qc m la n lc)).alloc (qc 0 none 0 0)).heap.size=w.heap.size+2:=by simp
 have b1:=dD (w.alloc (qc m la n lc)) 0 none 0 0;have b2:=dD ((w.alloc (qc m la n lc)).alloc (qc 0 none 0 0)) m none 0 0;rw [z1] at b1;rw [z2] at b2;exact ⟨((zB w _).alloc (by simp) _).alloc (by simp;omega) _,dA.below b1 ((ak _ _).alloc (aj _) _),b2,rfl,bT.nil _ _ _⟩
theorem vX(w:World)(m:Int)(la:Option Addr)(n lc:Nat):((w.alloc (.cells #[.int .i64 m,.slice la n lc] 26)).alloc (.cells #[.int .i64 0,.slice none 0 0] 26)).cell? ⟨w.heap.size,0,none⟩=some (.int .i64 m):=
 (dA.below (dD w m la n lc) ((ak _ _).alloc (aj _) _)).c.1.1
theorem xU(w:World)(m:Int)(la:Option Addr)(n lc:Nat):(((w.alloc (.cells #[.int .i64 m,.slice la n lc] 26)).alloc (.cells #[.int .i64 0,.slice none 0 0] 26)).alloc (.cells #[.int .i64 m,.slice none 0 0] 26)).cell? ⟨w.heap.size,0,none⟩=some (.int .i64 m)/\(((w.alloc (.cells #[.int .i64 m,.slice la n lc] 26)).alloc (.cells #[.int .i64 0,.slice none 0 0] 26)).alloc (.cells #[.int .i64 m,.slice none 0 0] 26)).cell? ⟨w.heap.size,1,none⟩=some (.slice la n lc):=
 (dA.below (dA.below (dD w m la n lc) ((ak _ _).alloc (aj _) (.cells #[.int .i64 0,.slice none 0 0] 26))) ((ak _ _).alloc (aj _) (.cells #[.int .i64 m,.slice none 0 0] 26))).c.1
end Go.Proofs.Ytmknpmamkjjiaaa