import Derived.Test.YtfgcodcablpdcaaGreatEDos
import Derived.Test.YtfgcodcablpdcaaGreatTxRds
set_option linter.unusedVariables false
set_option maxRecDepth 100000
set_option maxHeartbeats 64000000
namespace Go.Proofs.YtfgcodcablpdcaaGreat
open Go.Proofs.Tryz
open Go.RowKit Plain
theorem Ot{w:World}{node seq:Int}{da ea:Option Addr}{dn dc en ec:Nat}(h1:0<=node)(h2:node<8)(h3:1<=seq)(h4:seq<=1073741824)(h7:¬ (en:Int)<=8)
  (KD:∀ W,Below (w.alloc (.cells #[.int .i64 node,.int .i64 seq,.slice da dn dc,.slice ea en ec] 82)).heap.size (w.alloc (.cells #[.int .i64 node,.int .i64 seq,.slice da dn dc,.slice ea en ec] 82)) W ->Calls prog 156 #[.slice da dn dc] W (fO W true))
  (sy m:Int) (h6:IntKind.i64.wrap (seq-1)=m) (h6b:(sy==m)=true) (KA:∀ W,Below (w.alloc (.cells #[.int .i64 node,.int .i64 seq,.slice da dn dc,.slice ea en ec] 82)).heap.size (w.alloc (.cells #[.int .i64 node,.int .i64 seq,.slice da dn dc,.slice ea en ec] 82)) W ->Calls prog 131 #[.slice da dn dc,.int .i64 node] W fun e w'=>e= .returned (.int .i64 sy)/\Below W.heap.size W w') (g1:en<=9223372036854775807):
  Calls prog 82 #[.agg #[.int .i64 node,.int .i64 seq,.slice da dn dc,.slice ea en ec]] w (fO w false):=by
 have C1:=zH (JX w node seq da dn dc ea en ec);have Z1:Hid (w.heap.size<(w.alloc (.cells #[.int .i64 node,.int .i64 seq,.slice da dn dc,.slice ea en ec] 82)).heap.size):=zH (by simp);have G1:=zH (zB w (.cells #[.int .i64 node,.int .i64 seq,.slice da dn dc,.slice ea en ec] 82));replace KD:=zH KD;replace KA:=zH KA;go_enter func82,ntmps82
 go_upto_region 1 with fail
 generalize (w.alloc _)=w1 at*;have KE:=zH (JY C1.o Z1.o);refine wp_region_held_drew (S:=fun u'=>Below w1.heap.size w1 u'/\u'.cell? ⟨w.heap.size,0,none⟩=some (.int .i64 node)/\u'.cell? ⟨w.heap.size,1,none⟩=some (.int .i64 seq)/\u'.cell? ⟨w.heap.size,2,none⟩=some (.slice da dn dc)/\u'.cell? ⟨w.heap.size,3,none⟩=some (.slice ea en ec)) (by kernel_rfl) ?_ (fun hH=> ?_)
 ·(exact KE.o _ (aj _ _).drew)
 simp only [zS,aJ,Nat.reduceAdd]
 refine fJ 0 hH ?_;refine fJ 1 hH ?_;refine fJ 2 hH ?_;refine fJ 3 hH ?_;refine fJ 4 hH ?_;refine fJ 5 hH ?_;refine fJ 6 hH ?_;refine fJ 7 hH ?_;refine fJ 8 hH ?_;refine fJ 9 hH ?_;refine fJ 10 hH ?_;refine fJ 11 hH ?_;refine fJ 12 hH ?_;refine fJ 13 hH ?_;refine fJ 14 hH ?_;refine fJ 15 hH ?_;refine fJ 16 hH ?_;refine fJ 17 hH ?_;refine fJ 18 hH ?_;refine fJ 19 hH ?_;refine fJ 20 hH ?_;refine rd 21 fun K hK=> ?_
 go_simp
 refine (KD.o _ hH.1).mono ?_;rintro e s1 ⟨rfl,hb⟩;refine hK.out _ _ (KE.o _ (iM hH hb)) (fun hH=> ?_);clear hK K hb;refine fJ 22 hH ?_;refine fJ 23 hH ?_;refine fJ 24 hH ?_;refine fJ 25 hH ?_;refine fJ 26 hH ?_;refine fJ 27 hH ?_;refine fJ 29 hH ?_;refine fJ 30 hH ?_;refine fJ 31 hH ?_;refine rd 28 fun K hK=> ?_
 go_simp
 refine (KA.o _ hH.1).mono ?_;rintro e s2 ⟨rfl,hb⟩;refine hK.out _ _ (KE.o _ (iM hH hb)) (fun hH=> ?_);clear hK K hb;refine fJ 32 hH ?_;refine fJ 33 hH ?_;refine fJ 34 hH ?_;refine fJ 35 hH ?_;refine fJ 36 hH ?_;refine fJ 37 hH ?_;refine fJ 38 hH ?_;refine fJ 39 hH ?_;refine fJ 40 hH ?_;refine gq 41 hH ?_;refine gq 42 hH ?_;refine gq 43 hH ?_;refine gq 44 hH ?_;refine gq 45 hH ?_;refine gq 46 hH ?_;refine gq 47 hH ?_;refine fJ 48 hH ?_;refine fJ 49 hH ?_;refine gq 50 hH ?_;refine gq 51 hH ?_;refine gq 52 hH ?_;refine gq 53 hH ?_;refine gq 54 hH ?_;refine gq 55 hH ?_;refine gq 56 hH ?_;refine gq 57 hH ?_;refine gq 58 hH ?_;refine fJ 59 hH ?_;refine fJ 60 hH ?_;refine wpAnyH_done (by kernel_rfl) ?_ _;have GJ:Hid (Below w1.heap.size w1 _):=zH hH.1;clear hH;go_wp2_with fail
 go_ret
 exact ⟨rfl,G1.o.trans (GJ.o.mono G1.o.size)⟩
theorem Ou{w:World}{node seq:Int}{da ea:Option Addr}{dn dc en ec:Nat}(h1:0<=node)(h2:node<8)(h3:1<=seq)(h4:seq<=1073741824)(h7:(en:Int)<=8)
  (KD:∀ W,Below (w.alloc (.cells #[.int .i64 node,.int .i64 seq,.slice da dn dc,.slice ea en ec] 82)).heap.size (w.alloc (.cells #[.int .i64 node,.int .i64 seq,.slice da dn dc,.slice ea en ec] 82)) W ->Calls prog 156 #[.slice da dn dc] W (fO W true))
  (sy m:Int) (h6:IntKind.i64.wrap (seq-1)=m) (h6b:(sy==m)=true) (KA:∀ W,Below (w.alloc (.cells #[.int .i64 node,.int .i64 seq,.slice da dn dc,.slice ea en ec] 82)).heap.size (w.alloc (.cells #[.int .i64 node,.int .i64 seq,.slice da dn dc,.slice ea en ec] 82)) W ->Calls prog 131 #[.slice da dn dc,.int .i64 node] W fun e w'=>e= .returned (.int .i64 sy)/\Below W.heap.size W w')
  (KR:∀ W,Below (w.alloc (.cells #[.int .i64 node,.int .i64 seq,.slice da dn dc,.slice ea en ec] 82)).heap.size (w.alloc (.cells #[.int .i64 node,.int .i64 seq,.slice da dn dc,.slice ea en ec] 82)) W ->Calls prog 157 #[.int .i64 node,.int .i64 seq,.slice ea en ec] W (fO W false)) (g1:en<=9223372036854775807):
  Calls prog 82 #[.agg #[.int .i64 node,.int .i64 seq,.slice da dn dc,.slice ea en ec]] w (fO w false):=by
 have C1:=zH (JX w node seq da dn dc ea en ec);have Z1:Hid (w.heap.size<(w.alloc (.cells #[.int .i64 node,.int .i64 seq,.slice da dn dc,.slice ea en ec] 82)).heap.size):=zH (by simp);have G1:=zH (zB w (.cells #[.int .i64 node,.int .i64 seq,.slice da dn dc,.slice ea en ec] 82));replace KD:=zH KD;replace KA:=zH KA;replace KR:=zH KR;go_enter func82,ntmps82
 go_upto_region 1 with fail
 generalize (w.alloc _)=w1 at*;have KE:=zH (JY C1.o Z1.o);refine wp_region_held_drew (S:=fun u'=>Below w1.heap.size w1 u'/\u'.cell? ⟨w.heap.size,0,none⟩=some (.int .i64 node)/\u'.cell? ⟨w.heap.size,1,none⟩=some (.int .i64 seq)/\u'.cell? ⟨w.heap.size,2,none⟩=some (.slice da dn dc)/\u'.cell? ⟨w.heap.size,3,none⟩=some (.slice ea en ec)) (by kernel_rfl) ?_ (fun hH=> ?_)
 ·(exact KE.o _ (aj _ _).drew)
 simp only [zS,aJ,Nat.reduceAdd]
 refine fJ 0 hH ?_;refine fJ 1 hH ?_;refine fJ 2 hH ?_;refine fJ 3 hH ?_;refine fJ 4 hH ?_;refine fJ 5 hH ?_;refine fJ 6 hH ?_;refine fJ 7 hH ?_;refine fJ 8 hH ?_;refine fJ 9 hH ?_;refine fJ 10 hH ?_;refine fJ 11 hH ?_;refine fJ 12 hH ?_;refine fJ 13 hH ?_;refine fJ 14 hH ?_;refine fJ 15 hH ?_;refine fJ 16 hH ?_;refine fJ 17 hH ?_;refine fJ 18 hH ?_;refine fJ 19 hH ?_;refine fJ 20 hH ?_;refine rd 21 fun K hK=> ?_
 go_simp
 refine (KD.o _ hH.1).mono ?_;rintro e s1 ⟨rfl,hb⟩;refine hK.out _ _ (KE.o _ (iM hH hb)) (fun hH=> ?_);clear hK K hb;refine fJ 22 hH ?_;refine fJ 23 hH ?_;refine fJ 24 hH ?_;refine fJ 25 hH ?_;refine fJ 26 hH ?_;refine fJ 27 hH ?_;refine fJ 29 hH ?_;refine fJ 30 hH ?_;refine fJ 31 hH ?_;refine rd 28 fun K hK=> ?_
 go_simp
 refine (KA.o _ hH.1).mono ?_;rintro e s2 ⟨rfl,hb⟩;refine hK.out _ _ (KE.o _ (iM hH hb)) (fun hH=> ?_);clear hK K hb;refine fJ 32 hH ?_;refine fJ 33 hH ?_;refine fJ 34 hH ?_;refine fJ 35 hH ?_;refine fJ 36 hH ?_;refine fJ 37 hH ?_;refine fJ 38 hH ?_;refine fJ 39 hH ?_;refine fJ 40 hH ?_;refine fJ 41 hH ?_;refine fJ 42 hH ?_;refine fJ 43 hH ?_;refine fJ 44 hH ?_;refine fJ 45 hH ?_;refine fJ 46 hH ?_;refine rd 47 fun K hK=> ?_
 go_simp
 refine (KR.o _ hH.1).mono ?_;rintro e s3 ⟨rfl,hb⟩;refine hK.out _ _ (KE.o _ (iM hH hb)) (fun hH=> ?_);clear hK K hb;refine fJ 48 hH ?_;refine fJ 49 hH ?_;refine gq 50 hH ?_;refine gq 51 hH ?_;refine gq 52 hH ?_;refine gq 53 hH ?_;refine gq 54 hH ?_;refine gq 55 hH ?_;refine gq 56 hH ?_;refine gq 57 hH ?_;refine gq 58 hH ?_;refine fJ 59 hH ?_;refine fJ 60 hH ?_;refine wpAnyH_done (by kernel_rfl) ?_ _;have GJ:Hid (Below w1.heap.size w1 _):=zH hH.1;clear hH;go_wp2_with fail
 go_ret
 exact ⟨rfl,G1.o.trans (GJ.o.mono G1.o.size)⟩
theorem Ow{w:World}{node seq:Int}{da ea:Option Addr}{dn dc en ec:Nat}(h1:0<=node)(h2:node<8)(h3:1<=seq)(h4:seq<=1073741824)(h7:(en:Int)<=8)
  (KD:∀ W,Below (w.alloc (.cells #[.int .i64 node,.int .i64 seq,.slice da dn dc,.slice ea en ec] 82)).heap.size (w.alloc (.cells #[.int .i64 node,.int .i64 seq,.slice da dn dc,.slice ea en ec] 82)) W ->Calls prog 156 #[.slice da dn dc] W (fO W true))
  (sy m:Int) (h6:IntKind.i64.wrap (seq-1)=m) (h6b:(sy==m)=true) (KA:∀ W,Below (w.alloc (.cells #[.int .i64 node,.int .i64 seq,.slice da dn dc,.slice ea en ec] 82)).heap.size (w.alloc (.cells #[.int .i64 node,.int .i64 seq,.slice da dn dc,.slice ea en ec] 82)) W ->Calls prog 131 #[.slice da dn dc,.int .i64 node] W fun e w'=>e= .returned (.int .i64 sy)/\Below W.heap.size W w')
  (KR:∀ W,Below (w.alloc (.cells #[.int .i64 node,.int .i64 seq,.slice da dn dc,.slice ea en ec] 82)).heap.size (w.alloc (.cells #[.int .i64 node,.int .i64 seq,.slice da dn dc,.slice ea en ec] 82)) W ->Calls prog 157 #[.int .i64 node,.int .i64 seq,.slice ea en ec] W (fO W true))
  (KH:∀ W,Below (w.alloc (.cells #[.int .i64 node,.int .i64 seq,.slice da dn dc,.slice ea en ec] 82)).heap.size (w.alloc (.cells #[.int .i64 node,.int .i64 seq,.slice da dn dc,.slice ea en ec] 82)) W ->Calls prog 158 #[.slice ea en ec,.int .i64 node,.int .i64 seq,.slice da dn dc] W (fO W false)) (g1:en<=9223372036854775807):
  Calls prog 82 #[.agg #[.int .i64 node,.int .i64 seq,.slice da dn dc,.slice ea en ec]] w (fO w false):=by
 have C1:=zH (JX w node seq da dn dc ea en ec);have Z1:Hid (w.heap.size<(w.alloc (.cells #[.int .i64 node,.int .i64 seq,.slice da dn dc,.slice ea en ec] 82)).heap.size):=zH (by simp);have G1:=zH (zB w (.cells #[.int .i64 node,.int .i64 seq,.slice da dn dc,.slice ea en ec] 82));replace KD:=zH KD;replace KA:=zH KA;replace KR:=zH KR;replace KH:=zH KH;go_enter func82,ntmps82
 go_upto_region 1 with fail
 generalize (w.alloc _)=w1 at*;have KE:=zH (JY C1.o Z1.o);refine wp_region_held_drew (S:=fun u'=>Below w1.heap.size w1 u'/\u'.cell? ⟨w.heap.size,0,none⟩=some (.int .i64 node)/\u'.cell? ⟨w.heap.size,1,none⟩=some (.int .i64 seq)/\u'.cell? ⟨w.heap.size,2,none⟩=some (.slice da dn dc)/\u'.cell? ⟨w.heap.size,3,none⟩=some (.slice ea en ec)) (by kernel_rfl) ?_ (fun hH=> ?_)
 ·(exact KE.o _ (aj _ _).drew)
 simp only [zS,aJ,Nat.reduceAdd]
 refine fJ 0 hH ?_;refine fJ 1 hH ?_;refine fJ 2 hH ?_;refine fJ 3 hH ?_;refine fJ 4 hH ?_;refine fJ 5 hH ?_;refine fJ 6 hH ?_;refine fJ 7 hH ?_;refine fJ 8 hH ?_;refine fJ 9 hH ?_;refine fJ 10 hH ?_;refine fJ 11 hH ?_;refine fJ 12 hH ?_;refine fJ 13 hH ?_;refine fJ 14 hH ?_;refine fJ 15 hH ?_;refine fJ 16 hH ?_;refine fJ 17 hH ?_;refine fJ 18 hH ?_;refine fJ 19 hH ?_;refine fJ 20 hH ?_;refine rd 21 fun K hK=> ?_
 go_simp
 refine (KD.o _ hH.1).mono ?_;rintro e s1 ⟨rfl,hb⟩;refine hK.out _ _ (KE.o _ (iM hH hb)) (fun hH=> ?_);clear hK K hb;refine fJ 22 hH ?_;refine fJ 23 hH ?_;refine fJ 24 hH ?_;refine fJ 25 hH ?_;refine fJ 26 hH ?_;refine fJ 27 hH ?_;refine fJ 29 hH ?_;refine fJ 30 hH ?_;refine fJ 31 hH ?_;refine rd 28 fun K hK=> ?_
 go_simp
 refine (KA.o _ hH.1).mono ?_;rintro e s2 ⟨rfl,hb⟩;refine hK.out _ _ (KE.o _ (iM hH hb)) (fun hH=> ?_);clear hK K hb;refine fJ 32 hH ?_;refine fJ 33 hH ?_;refine fJ 34 hH ?_;refine fJ 35 hH ?_;refine fJ 36 hH ?_;refine fJ 37 hH ?_;refine fJ 38 hH ?_;refine fJ 39 hH ?_;refine fJ 40 hH ?_;refine fJ 41 hH ?_;refine fJ 42 hH ?_;refine fJ 43 hH ?_;refine fJ 44 hH ?_;refine fJ 45 hH ?_;refine fJ 46 hH ?_;refine rd 47 fun K hK=> ?_
 go_simp
 refine (KR.o _ hH.1).mono ?_;rintro e s3 ⟨rfl,hb⟩;refine hK.out _ _ (KE.o _ (iM hH hb)) (fun hH=> ?_);clear hK K hb;refine fJ 48 hH ?_;refine fJ 49 hH ?_;refine fJ 50 hH ?_;refine fJ 51 hH ?_;refine fJ 52 hH ?_;refine fJ 53 hH ?_;refine fJ 54 hH ?_;refine fJ 55 hH ?_;refine fJ 56 hH ?_;refine fJ 57 hH ?_;refine rd 58 fun K hK=> ?_
 go_simp
 refine (KH.o _ hH.1).mono ?_;rintro e s4 ⟨rfl,hb⟩;refine hK.out _ _ (KE.o _ (iM hH hb)) (fun hH=> ?_);clear hK K hb;refine fJ 59 hH ?_;refine fJ 60 hH ?_;refine wpAnyH_done (by kernel_rfl) ?_ _;have GJ:Hid (Below w1.heap.size w1 _):=zH hH.1;clear hH;go_wp2_with fail
 go_ret
 exact ⟨rfl,G1.o.trans (GJ.o.mono G1.o.size)⟩
theorem Ke{w:World}{node seq:Int}{da ea:Option Addr}{dn dc en ec:Nat}(h1:0<=node)(h2:node<8)(h3:1<=seq)(h4:seq<=1073741824)(h7:(en:Int)<=8)
  (KD:∀ W,Below (w.alloc (.cells #[.int .i64 node,.int .i64 seq,.slice da dn dc,.slice ea en ec] 82)).heap.size (w.alloc (.cells #[.int .i64 node,.int .i64 seq,.slice da dn dc,.slice ea en ec] 82)) W ->Calls prog 156 #[.slice da dn dc] W (fO W true))
  (sy m:Int) (h6:IntKind.i64.wrap (seq-1)=m) (h6b:(sy==m)=true) (KA:∀ W,Below (w.alloc (.cells #[.int .i64 node,.int .i64 seq,.slice da dn dc,.slice ea en ec] 82)).heap.size (w.alloc (.cells #[.int .i64 node,.int .i64 seq,.slice da dn dc,.slice ea en ec] 82)) W ->Calls prog 131 #[.slice da dn dc,.int .i64 node] W fun e w'=>e= .returned (.int .i64 sy)/\Below W.heap.size W w')
  (KR:∀ W,Below (w.alloc (.cells #[.int .i64 node,.int .i64 seq,.slice da dn dc,.slice ea en ec] 82)).heap.size (w.alloc (.cells #[.int .i64 node,.int .i64 seq,.slice da dn dc,.slice ea en ec] 82)) W ->Calls prog 157 #[.int .i64 node,.int .i64 seq,.slice ea en ec] W (fO W true))
  (KH:∀ W,Below (w.alloc (.cells #[.int .i64 node,.int .i64 seq,.slice da dn dc,.slice ea en ec] 82)).heap.size (w.alloc (.cells #[.int .i64 node,.int .i64 seq,.slice da dn dc,.slice ea en ec] 82)) W ->Calls prog 158 #[.slice ea en ec,.int .i64 node,.int .i64 seq,.slice da dn dc] W (fO W true)) (g1:en<=9223372036854775807):
  Calls prog 82 #[.agg #[.int .i64 node,.int .i64 seq,.slice da dn dc,.slice ea en ec]] w (fO w true):=by
 have C1:=zH (JX w node seq da dn dc ea en ec);have Z1:Hid (w.heap.size<(w.alloc (.cells #[.int .i64 node,.int .i64 seq,.slice da dn dc,.slice ea en ec] 82)).heap.size):=zH (by simp);have G1:=zH (zB w (.cells #[.int .i64 node,.int .i64 seq,.slice da dn dc,.slice ea en ec] 82));replace KD:=zH KD;replace KA:=zH KA;replace KR:=zH KR;replace KH:=zH KH;go_enter func82,ntmps82
 go_upto_region 1 with fail
 generalize (w.alloc _)=w1 at*;have KE:=zH (JY C1.o Z1.o);refine wp_region_held_drew (S:=fun u'=>Below w1.heap.size w1 u'/\u'.cell? ⟨w.heap.size,0,none⟩=some (.int .i64 node)/\u'.cell? ⟨w.heap.size,1,none⟩=some (.int .i64 seq)/\u'.cell? ⟨w.heap.size,2,none⟩=some (.slice da dn dc)/\u'.cell? ⟨w.heap.size,3,none⟩=some (.slice ea en ec)) (by kernel_rfl) ?_ (fun hH=> ?_)
 ·(exact KE.o _ (aj _ _).drew)
 simp only [zS,aJ,Nat.reduceAdd]
 refine fJ 0 hH ?_;refine fJ 1 hH ?_;refine fJ 2 hH ?_;refine fJ 3 hH ?_;refine fJ 4 hH ?_;refine fJ 5 hH ?_;refine fJ 6 hH ?_;refine fJ 7 hH ?_;refine fJ 8 hH ?_;refine fJ 9 hH ?_;refine fJ 10 hH ?_;refine fJ 11 hH ?_;refine fJ 12 hH ?_;refine fJ 13 hH ?_;refine fJ 14 hH ?_;refine fJ 15 hH ?_;refine fJ 16 hH ?_;refine fJ 17 hH ?_;refine fJ 18 hH ?_;refine fJ 19 hH ?_;refine fJ 20 hH ?_;refine rd 21 fun K hK=> ?_
 go_simp
 refine (KD.o _ hH.1).mono ?_;rintro e s1 ⟨rfl,hb⟩;refine hK.out _ _ (KE.o _ (iM hH hb)) (fun hH=> ?_);clear hK K hb;refine fJ 22 hH ?_;refine fJ 23 hH ?_;refine fJ 24 hH ?_;refine fJ 25 hH ?_;refine fJ 26 hH ?_;refine fJ 27 hH ?_;refine fJ 29 hH ?_;refine fJ 30 hH ?_;refine fJ 31 hH ?_;refine rd 28 fun K hK=> ?_
 go_simp
 refine (KA.o _ hH.1).mono ?_;rintro e s2 ⟨rfl,hb⟩;refine hK.out _ _ (KE.o _ (iM hH hb)) (fun hH=> ?_);clear hK K hb;refine fJ 32 hH ?_;refine fJ 33 hH ?_;refine fJ 34 hH ?_;refine fJ 35 hH ?_;refine fJ 36 hH ?_;refine fJ 37 hH ?_;refine fJ 38 hH ?_;refine fJ 39 hH ?_;refine fJ 40 hH ?_;refine fJ 41 hH ?_;refine fJ 42 hH ?_;refine fJ 43 hH ?_;refine fJ 44 hH ?_;refine fJ 45 hH ?_;refine fJ 46 hH ?_;refine rd 47 fun K hK=> ?_
 go_simp
 refine (KR.o _ hH.1).mono ?_;rintro e s3 ⟨rfl,hb⟩;refine hK.out _ _ (KE.o _ (iM hH hb)) (fun hH=> ?_);clear hK K hb;refine fJ 48 hH ?_;refine fJ 49 hH ?_;refine fJ 50 hH ?_;refine fJ 51 hH ?_;refine fJ 52 hH ?_;refine fJ 53 hH ?_;refine fJ 54 hH ?_;refine fJ 55 hH ?_;refine fJ 56 hH ?_;refine fJ 57 hH ?_;refine rd 58 fun K hK=> ?_
 go_simp
 refine (KH.o _ hH.1).mono ?_;rintro e s4 ⟨rfl,hb⟩;refine hK.out _ _ (KE.o _ (iM hH hb)) (fun hH=> ?_);clear hK K hb;refine fJ 59 hH ?_;refine fJ 60 hH ?_;refine wpAnyH_done (by kernel_rfl) ?_ _;have GJ:Hid (Below w1.heap.size w1 _):=zH hH.1;clear hH;go_wp2_with fail
 go_ret
 exact ⟨rfl,G1.o.trans (GJ.o.mono G1.o.size)⟩
end Go.Proofs.YtfgcodcablpdcaaGreat
set_option maxRecDepth 100000
set_option maxHeartbeats 64000000
namespace Go.Proofs.YtfgcodcablpdcaaGreat
open Go.Proofs.Tryz
open Go.RowKit Plain
structure lJ(t:fI):Prop where
 deps:t.deps.length<=1000
 effs:t.effs.length<=1000
 drops:∀ e∈t.effs,e.drops.length<=1000
 ok:yD t
theorem kN.slices{w:World}{v:Value}{t:fI}(h:kN w v t):∃ da dn dc ea en ec,v= .agg #[.int .i64 t.node,.int .i64 t.seq,.slice da dn dc,.slice ea en ec]/\fM gL w (.slice da dn dc) t.deps/\fM jo w (.slice ea en ec) t.effs:=by
 obtain ⟨dv,ev,rfl,h1,h2⟩:=h;obtain ⟨a1,c1,rfl,-,-,-,k1⟩:=h1.parts;obtain ⟨a2,c2,rfl,-,-,-,k2⟩:=h2.parts;exact ⟨_,_,_,_,_,_,rfl,k1,k2⟩
theorem CW{t:fI}(h:inRange t.node t.seq=false):fQ t=false:=by unfold fQ;rw [h];rfl
theorem vL{v:Value}{t:fI}{w:World}(h:kN w v t)(ht:lJ t)(r:Bool)(hr:fQ t=r):Calls prog 82 #[v] w (fO w r):=by
 obtain ⟨l1,l2,l3,-⟩:=ht;obtain ⟨da,dn,dc,ea,en,ec,rfl,k1,k2⟩:=h.slices;have hen:=k2.iY;have g1:en<=9223372036854775807:=by omega
 have hz:=@Below.trans w.heap.size w (w.alloc (.cells #[.int .i64 t.node,.int .i64 t.seq,.slice da dn dc,.slice ea en ec] 82));have hba:=zB w (.cells #[.int .i64 t.node,.int .i64 t.seq,.slice da dn dc,.slice ea en ec] 82);have hto:∀ W,Below (w.alloc (.cells #[.int .i64 t.node,.int .i64 t.seq,.slice da dn dc,.slice ea en ec] 82)).heap.size (w.alloc (.cells #[.int .i64 t.node,.int .i64 t.seq,.slice da dn dc,.slice ea en ec] 82)) W ->Below w.heap.size w W:=fun W hb=>hba.trans (hb.mono hba.size)
 have KD:=fun W hb=>Rj (gW (k1.below (hto W hb))) (by omega)
 have KA:=fun W hb=>(jJ (gW (k1.below (hto W hb))) t.node).mono (R':=fun e w'=>e= .returned (.int .i64 (iF t.deps t.node))/\Below W.heap.size W w') fun e w' ⟨he,hw⟩=>⟨he,hw▸aj _ _⟩
 have KR:=fun W hb=>UA t.node t.seq (k2.below (hto W hb)) (by omega) (fun e he=>by have:=l3 e he;omega)
 have KH:=fun W hb=>VE t.node t.seq (k2.below (hto W hb)) (gW (k1.below (hto W hb))) (fun e he=>by have:=l3 e he;omega)
 have ed:=depsB_is t;subst hr
 by_cases h1:0<=t.node
 rotate_left
 ·rw [CW (aF (by omega))];exact Ox h1 g1
 by_cases h2:t.node<8
 rotate_left
 ·rw [CW (aF (by omega))];exact Oy h1 h2 g1
 by_cases h3:1<=t.seq
 rotate_left
 ·rw [CW (aF (by omega))];exact OG h1 h2 h3 g1
 by_cases h4:t.seq<=1073741824
 rotate_left
 ·rw [CW (aF (by omega))];exact OH h1 h2 h3 h4 g1
 have hI:inRange t.node t.seq=true:=aI (by omega);have h6:IntKind.i64.wrap (t.seq-1)=t.seq-1:=by simp [IntKind.wrap,IntKind.bits,IntKind.signed];omega
 cases h5:uE t.deps with
 |false=>
  have e:fQ t=false:=by unfold fQ;rw [ed,h5,hI];rfl
  rw [e];exact OJ h1 h2 h3 h4 (fun W hb=>h5▸KD W hb) g1
 |true=>
  have KD':∀ W,Below (w.alloc (.cells #[.int .i64 t.node,.int .i64 t.seq,.slice da dn dc,.slice ea en ec] 82)).heap.size (w.alloc (.cells #[.int .i64 t.node,.int .i64 t.seq,.slice da dn dc,.slice ea en ec] 82)) W ->Calls prog 156 #[.slice da dn dc] W (fO W true):=fun W hb=>h5▸KD W hb
  by_cases h6b:iF t.deps t.node=t.seq-1
  rotate_left
  ·have e:fQ t=false:=by unfold fQ;rw [ed,h5,hI,aF h6b];rfl
   rw [e];exact OM h1 h2 h3 h4 KD' (iF t.deps t.node) (t.seq-1) h6 (by simp [h6b]) KA g1
  have q6:(iF t.deps t.node==t.seq-1)=true:=by simp [h6b]
  by_cases h7:(en:Int)<=8
  rotate_left
  ·have e:fQ t=false:=by unfold fQ;rw [ed,h5,hI,aI h6b,aF (show ¬ t.effs.length<=8 by omega)];rfl
   rw [e];exact Ot h1 h2 h3 h4 h7 KD' (iF t.deps t.node) (t.seq-1) h6 q6 KA g1
  have q7:decide (t.effs.length<=8)=true:=aI (by omega)
  cases h8:nN t.node t.seq t.effs with
  |false=>
   have e:fQ t=false:=by unfold fQ;rw [ed,h5,hI,aI h6b,q7,h8];rfl
   rw [e];exact Ou h1 h2 h3 h4 h7 KD' (iF t.deps t.node) (t.seq-1) h6 q6 KA (fun W hb=>h8▸KR W hb) g1
  |true=>
   have KR':∀ W,Below (w.alloc (.cells #[.int .i64 t.node,.int .i64 t.seq,.slice da dn dc,.slice ea en ec] 82)).heap.size (w.alloc (.cells #[.int .i64 t.node,.int .i64 t.seq,.slice da dn dc,.slice ea en ec] 82)) W ->Calls prog 157 #[.int .i64 t.node,.int .i64 t.seq,.slice ea en ec] W (fO W true):=fun W hb=>h8▸KR W hb
   cases h9:vg t.effs t.node t.seq t.deps with
   |false=>
    have e:fQ t=false:=by unfold fQ;rw [ed,h5,hI,aI h6b,q7,h8,h9];rfl
    rw [e];exact Ow h1 h2 h3 h4 h7 KD' (iF t.deps t.node) (t.seq-1) h6 q6 KA KR' (fun W hb=>h9▸KH W hb) g1
   |true=>
    have e:fQ t=true:=by unfold fQ;rw [ed,h5,hI,aI h6b,q7,h8,h9];rfl
    rw [e];exact Ke h1 h2 h3 h4 h7 KD' (iF t.deps t.node) (t.seq-1) h6 q6 KA KR' (fun W hb=>h9▸KH W hb) g1
end Go.Proofs.YtfgcodcablpdcaaGreat
set_option maxRecDepth 100000
set_option maxHeartbeats 64000000
namespace Go.Proofs.YtfgcodcablpdcaaGreat
open Go.Proofs.Tryz
open Go.RowKit Plain
theorem txdotP{a b:Int}{da ea:Option Addr}{dn dc en ec:Nat}{w:World}:Calls prog 241 #[.agg #[.int .i64 a,.int .i64 b,.slice da dn dc,.slice ea en ec]] w fun e w'=>e= .returned (.agg #[.int .i64 a,.int .i64 b,.int .i64 0])/\Below w.heap.size w w':=by
 have G1:Hid (Below w.heap.size w ((w.alloc (.cells #[.int .i64 a,.int .i64 b,.slice da dn dc,.slice ea en ec] 82)).alloc (.cells #[.int .i64 0,.int .i64 0,.int .i64 0] 77))):=zH (((aj _ _).alloc (ah _) _).alloc (by simp) _);go_enter func241,ntmps241
 go_wp2_with fail
 refine bodyPost_ret (v:= .agg #[.int .i64 a,.int .i64 b,.int .i64 0]) (by simp [results,results241,go_sem]) rfl ⟨rfl,?_⟩;exact ((aj _ _).alloc (ah _) _).alloc (by simp) _
theorem Xa{B:Nat}{w:World}{v:Value}{xs:List Int}(h:gI B w v xs):gy gL B w v xs:=by
 refine ⟨xs.map (Value.int .i64),h,by rw [dH];show _=xs.length*1;omega,fun j x hj=> ?_⟩
 show ((xs.map (Value.int .i64)).drop (j*1)).take 1=[.int .i64 x]
 obtain ⟨hl,rfl⟩:=aP.1 hj;rw [eY,List.take_one];simp [List.getElem?_eq_getElem hl]
theorem Jg{W:World}{x:fI}{dv ev:Value}{C N:Nat}{ov:Value}(hd:Sq gL (fun b=>C<=b/\b<W.heap.size) W dv x.deps)(he:Sq jo (fun b=>C<=b/\b<W.heap.size) W ev x.effs)(hg:∀ k,ov.ownBlock=some k ->k<C)(hz:C<=W.heap.size)(hN:N<=C):
  Sq gV (fun b=>N<=b/\b<(W.alloc (.cells #[.int .i64 x.node,.int .i64 x.seq,dv,ev] 82)).heap.size/\ov.ownBlock≠some b) (W.alloc (.cells #[.int .i64 x.node,.int .i64 x.seq,dv,ev] 82)) (.slice (some ⟨W.heap.size,0,none⟩) 1 1) [x]:=by
 have hS:(W.alloc (.cells #[.int .i64 x.node,.int .i64 x.seq,dv,ev] 82)).heap.size=W.heap.size+1:=by simp
 rw [hS];have hB:Below W.heap.size W (W.alloc (.cells #[.int .i64 x.node,.int .i64 x.seq,dv,ev] 82)):=(aj _ _).alloc (ah _) _;have hw:∀ b,(C<=b/\b<W.heap.size) ->N<=b/\b<W.heap.size+1/\ov.ownBlock≠some b:=fun b hb=>⟨by omega,by omega,fun e=>by have:=hg b e;omega⟩
 refine ⟨_,1,rA x dv ev,rfl,ah _,by unfold maxLen;simp,(by simp),Rows.Bc ⟨_,_,rfl,(hd.agree fun b hb=>hB.block b hb.2).mono hw,(he.agree fun b hb=>hB.block b hb.2).mono hw⟩,fun _=>⟨_,0,rfl,⟨by omega,by omega,fun e=>by have:=hg _ e;omega⟩,fun i u' hu=> ?_⟩⟩;rw [aJ];have:=bg W #[.int .i64 x.node,.int .i64 x.seq,dv,ev] 82 i;rw [this,<-cB];exact hu
end Go.Proofs.YtfgcodcablpdcaaGreat