import Derived.Test.YtmknpmamkjjiaaaTxDeps
import Derived.Test.YtmknpmamkjjiaaaEForms
import Derived.Test.YtmknpmamkjjiaaaEHeard
set_option linter.unusedVariables false
set_option maxRecDepth 100000
set_option maxHeartbeats 64000000
namespace Go.Proofs.Ytmknpmamkjjiaaa
open Go.Proofs.Try
open Go.RowKit Plain
theorem oP{w:World}{node seq:Int}{da ea:Option Addr}{dn dc en ec:Nat}(h1:0<=node)(h2:node<8)(h3:1<=seq)(h4:seq<=1073741824)(h7:¬ (en:Int)<=8)
  (KD:∀ W,Below (w.alloc (.cells #[.int .i64 node,.int .i64 seq,.slice da dn dc,.slice ea en ec] 34)).heap.size (w.alloc (.cells #[.int .i64 node,.int .i64 seq,.slice da dn dc,.slice ea en ec] 34)) W ->Calls prog 23 #[.slice da dn dc] W (bH W true))
  (sy m:Int) (h6:IntKind.i64.wrap (seq-1)=m) (vg:(sy==m)=true) (KA:∀ W,Below (w.alloc (.cells #[.int .i64 node,.int .i64 seq,.slice da dn dc,.slice ea en ec] 34)).heap.size (w.alloc (.cells #[.int .i64 node,.int .i64 seq,.slice da dn dc,.slice ea en ec] 34)) W ->Calls prog 21 #[.slice da dn dc,.int .i64 node] W fun e w'=>e= .returned (.int .i64 sy)/\Below W.heap.size W w') (g1:en<=9223372036854775807):
  Calls prog 16 #[.agg #[.int .i64 node,.int .i64 seq,.slice da dn dc,.slice ea en ec]] w (bH w false):=by
 have C1:=zH (lU w node seq da dn dc ea en ec);have Z1:Hid (w.heap.size<(w.alloc (.cells #[.int .i64 node,.int .i64 seq,.slice da dn dc,.slice ea en ec] 34)).heap.size):=zH (by simp);have G1:=zH (zB w (.cells #[.int .i64 node,.int .i64 seq,.slice da dn dc,.slice ea en ec] 34));replace KD:=zH KD;replace KA:=zH KA;go_enter func16,ntmps16
 go_upto_region 1 with fail
 generalize (w.alloc _)=w1 at*;have KE:=zH (lV C1.o Z1.o);refine wp_region_held_drew (S:=fun u'=>Below w1.heap.size w1 u'/\u'.cell? ⟨w.heap.size,0,none⟩=some (.int .i64 node)/\u'.cell? ⟨w.heap.size,1,none⟩=some (.int .i64 seq)/\u'.cell? ⟨w.heap.size,2,none⟩=some (.slice da dn dc)/\u'.cell? ⟨w.heap.size,3,none⟩=some (.slice ea en ec)) (by kernel_rfl) ?_ (fun hH=> ?_)
 ·(exact KE.o _ (ak _ _).drew)
 simp only [zS,aC,Nat.reduceAdd]
 refine bF 0 hH ?_;refine bF 1 hH ?_;refine bF 2 hH ?_;refine bF 3 hH ?_;refine bF 4 hH ?_;refine bF 5 hH ?_;refine bF 6 hH ?_;refine bF 7 hH ?_;refine bF 8 hH ?_;refine bF 9 hH ?_;refine bF 10 hH ?_;refine bF 11 hH ?_;refine bF 12 hH ?_;refine bF 13 hH ?_;refine bF 14 hH ?_;refine bF 15 hH ?_;refine bF 16 hH ?_;refine bF 17 hH ?_;refine bF 18 hH ?_;refine bF 19 hH ?_;refine bF 20 hH ?_;refine rd 21 fun K hK=> ?_
 go_simp
 refine (KD.o _ hH.1).mono ?_;rintro e s1 ⟨rfl,hb⟩;refine hK.out _ _ (KE.o _ (dz hH hb)) (fun hH=> ?_);clear hK K hb;refine bF 22 hH ?_;refine bF 23 hH ?_;refine bF 24 hH ?_;refine bF 25 hH ?_;refine bF 26 hH ?_;refine bF 27 hH ?_;refine bF 29 hH ?_;refine bF 30 hH ?_;refine bF 31 hH ?_;refine rd 28 fun K hK=> ?_
 go_simp
 refine (KA.o _ hH.1).mono ?_;rintro e s2 ⟨rfl,hb⟩;refine hK.out _ _ (KE.o _ (dz hH hb)) (fun hH=> ?_);clear hK K hb;refine bF 32 hH ?_;refine bF 33 hH ?_;refine bF 34 hH ?_;refine bF 35 hH ?_;refine bF 36 hH ?_;refine bF 37 hH ?_;refine bF 38 hH ?_;refine bF 39 hH ?_;refine bF 40 hH ?_;refine bG 41 hH ?_;refine bG 42 hH ?_;refine bG 43 hH ?_;refine bG 44 hH ?_;refine bG 45 hH ?_;refine bG 46 hH ?_;refine bG 47 hH ?_;refine bF 48 hH ?_;refine bF 49 hH ?_;refine bG 50 hH ?_;refine bG 51 hH ?_;refine bG 52 hH ?_;refine bG 53 hH ?_;refine bG 54 hH ?_;refine bG 55 hH ?_;refine bG 56 hH ?_;refine bG 57 hH ?_;refine bG 58 hH ?_;refine bF 59 hH ?_;refine bF 60 hH ?_;refine wpAnyH_done (by kernel_rfl) ?_ _;have GJ:Hid (Below w1.heap.size w1 _):=zH hH.1;clear hH;go_wp2_with fail
 go_ret
 exact ⟨rfl,G1.o.trans (GJ.o.mono G1.o.size)⟩
theorem oQ{w:World}{node seq:Int}{da ea:Option Addr}{dn dc en ec:Nat}(h1:0<=node)(h2:node<8)(h3:1<=seq)(h4:seq<=1073741824)(h7:(en:Int)<=8)
  (KD:∀ W,Below (w.alloc (.cells #[.int .i64 node,.int .i64 seq,.slice da dn dc,.slice ea en ec] 34)).heap.size (w.alloc (.cells #[.int .i64 node,.int .i64 seq,.slice da dn dc,.slice ea en ec] 34)) W ->Calls prog 23 #[.slice da dn dc] W (bH W true))
  (sy m:Int) (h6:IntKind.i64.wrap (seq-1)=m) (vg:(sy==m)=true) (KA:∀ W,Below (w.alloc (.cells #[.int .i64 node,.int .i64 seq,.slice da dn dc,.slice ea en ec] 34)).heap.size (w.alloc (.cells #[.int .i64 node,.int .i64 seq,.slice da dn dc,.slice ea en ec] 34)) W ->Calls prog 21 #[.slice da dn dc,.int .i64 node] W fun e w'=>e= .returned (.int .i64 sy)/\Below W.heap.size W w')
  (KR:∀ W,Below (w.alloc (.cells #[.int .i64 node,.int .i64 seq,.slice da dn dc,.slice ea en ec] 34)).heap.size (w.alloc (.cells #[.int .i64 node,.int .i64 seq,.slice da dn dc,.slice ea en ec] 34)) W ->Calls prog 24 #[.int .i64 node,.int .i64 seq,.slice ea en ec] W (bH W false)) (g1:en<=9223372036854775807):
  Calls prog 16 #[.agg #[.int .i64 node,.int .i64 seq,.slice da dn dc,.slice ea en ec]] w (bH w false):=by
 have C1:=zH (lU w node seq da dn dc ea en ec);have Z1:Hid (w.heap.size<(w.alloc (.cells #[.int .i64 node,.int .i64 seq,.slice da dn dc,.slice ea en ec] 34)).heap.size):=zH (by simp);have G1:=zH (zB w (.cells #[.int .i64 node,.int .i64 seq,.slice da dn dc,.slice ea en ec] 34));replace KD:=zH KD;replace KA:=zH KA;replace KR:=zH KR;go_enter func16,ntmps16
 go_upto_region 1 with fail
 generalize (w.alloc _)=w1 at*;have KE:=zH (lV C1.o Z1.o);refine wp_region_held_drew (S:=fun u'=>Below w1.heap.size w1 u'/\u'.cell? ⟨w.heap.size,0,none⟩=some (.int .i64 node)/\u'.cell? ⟨w.heap.size,1,none⟩=some (.int .i64 seq)/\u'.cell? ⟨w.heap.size,2,none⟩=some (.slice da dn dc)/\u'.cell? ⟨w.heap.size,3,none⟩=some (.slice ea en ec)) (by kernel_rfl) ?_ (fun hH=> ?_)
 ·(exact KE.o _ (ak _ _).drew)
 simp only [zS,aC,Nat.reduceAdd]
 refine bF 0 hH ?_;refine bF 1 hH ?_;refine bF 2 hH ?_;refine bF 3 hH ?_;refine bF 4 hH ?_;refine bF 5 hH ?_;refine bF 6 hH ?_;refine bF 7 hH ?_;refine bF 8 hH ?_;refine bF 9 hH ?_;refine bF 10 hH ?_;refine bF 11 hH ?_;refine bF 12 hH ?_;refine bF 13 hH ?_;refine bF 14 hH ?_;refine bF 15 hH ?_;refine bF 16 hH ?_;refine bF 17 hH ?_;refine bF 18 hH ?_;refine bF 19 hH ?_;refine bF 20 hH ?_;refine rd 21 fun K hK=> ?_
 go_simp
 refine (KD.o _ hH.1).mono ?_;rintro e s1 ⟨rfl,hb⟩;refine hK.out _ _ (KE.o _ (dz hH hb)) (fun hH=> ?_);clear hK K hb;refine bF 22 hH ?_;refine bF 23 hH ?_;refine bF 24 hH ?_;refine bF 25 hH ?_;refine bF 26 hH ?_;refine bF 27 hH ?_;refine bF 29 hH ?_;refine bF 30 hH ?_;refine bF 31 hH ?_;refine rd 28 fun K hK=> ?_
 go_simp
 refine (KA.o _ hH.1).mono ?_;rintro e s2 ⟨rfl,hb⟩;refine hK.out _ _ (KE.o _ (dz hH hb)) (fun hH=> ?_);clear hK K hb;refine bF 32 hH ?_;refine bF 33 hH ?_;refine bF 34 hH ?_;refine bF 35 hH ?_;refine bF 36 hH ?_;refine bF 37 hH ?_;refine bF 38 hH ?_;refine bF 39 hH ?_;refine bF 40 hH ?_;refine bF 41 hH ?_;refine bF 42 hH ?_;refine bF 43 hH ?_;refine bF 44 hH ?_;refine bF 45 hH ?_;refine bF 46 hH ?_;refine rd 47 fun K hK=> ?_
 go_simp
 refine (KR.o _ hH.1).mono ?_;rintro e s3 ⟨rfl,hb⟩;refine hK.out _ _ (KE.o _ (dz hH hb)) (fun hH=> ?_);clear hK K hb;refine bF 48 hH ?_;refine bF 49 hH ?_;refine bG 50 hH ?_;refine bG 51 hH ?_;refine bG 52 hH ?_;refine bG 53 hH ?_;refine bG 54 hH ?_;refine bG 55 hH ?_;refine bG 56 hH ?_;refine bG 57 hH ?_;refine bG 58 hH ?_;refine bF 59 hH ?_;refine bF 60 hH ?_;refine wpAnyH_done (by kernel_rfl) ?_ _;have GJ:Hid (Below w1.heap.size w1 _):=zH hH.1;clear hH;go_wp2_with fail
 go_ret
 exact ⟨rfl,G1.o.trans (GJ.o.mono G1.o.size)⟩
theorem oU{w:World}{node seq:Int}{da ea:Option Addr}{dn dc en ec:Nat}(h1:0<=node)(h2:node<8)(h3:1<=seq)(h4:seq<=1073741824)(h7:(en:Int)<=8)
  (KD:∀ W,Below (w.alloc (.cells #[.int .i64 node,.int .i64 seq,.slice da dn dc,.slice ea en ec] 34)).heap.size (w.alloc (.cells #[.int .i64 node,.int .i64 seq,.slice da dn dc,.slice ea en ec] 34)) W ->Calls prog 23 #[.slice da dn dc] W (bH W true))
  (sy m:Int) (h6:IntKind.i64.wrap (seq-1)=m) (vg:(sy==m)=true) (KA:∀ W,Below (w.alloc (.cells #[.int .i64 node,.int .i64 seq,.slice da dn dc,.slice ea en ec] 34)).heap.size (w.alloc (.cells #[.int .i64 node,.int .i64 seq,.slice da dn dc,.slice ea en ec] 34)) W ->Calls prog 21 #[.slice da dn dc,.int .i64 node] W fun e w'=>e= .returned (.int .i64 sy)/\Below W.heap.size W w')
  (KR:∀ W,Below (w.alloc (.cells #[.int .i64 node,.int .i64 seq,.slice da dn dc,.slice ea en ec] 34)).heap.size (w.alloc (.cells #[.int .i64 node,.int .i64 seq,.slice da dn dc,.slice ea en ec] 34)) W ->Calls prog 24 #[.int .i64 node,.int .i64 seq,.slice ea en ec] W (bH W true))
  (KH:∀ W,Below (w.alloc (.cells #[.int .i64 node,.int .i64 seq,.slice da dn dc,.slice ea en ec] 34)).heap.size (w.alloc (.cells #[.int .i64 node,.int .i64 seq,.slice da dn dc,.slice ea en ec] 34)) W ->Calls prog 25 #[.slice ea en ec,.int .i64 node,.int .i64 seq,.slice da dn dc] W (bH W false)) (g1:en<=9223372036854775807):
  Calls prog 16 #[.agg #[.int .i64 node,.int .i64 seq,.slice da dn dc,.slice ea en ec]] w (bH w false):=by
 have C1:=zH (lU w node seq da dn dc ea en ec);have Z1:Hid (w.heap.size<(w.alloc (.cells #[.int .i64 node,.int .i64 seq,.slice da dn dc,.slice ea en ec] 34)).heap.size):=zH (by simp);have G1:=zH (zB w (.cells #[.int .i64 node,.int .i64 seq,.slice da dn dc,.slice ea en ec] 34));replace KD:=zH KD;replace KA:=zH KA;replace KR:=zH KR;replace KH:=zH KH;go_enter func16,ntmps16
 go_upto_region 1 with fail
 generalize (w.alloc _)=w1 at*;have KE:=zH (lV C1.o Z1.o);refine wp_region_held_drew (S:=fun u'=>Below w1.heap.size w1 u'/\u'.cell? ⟨w.heap.size,0,none⟩=some (.int .i64 node)/\u'.cell? ⟨w.heap.size,1,none⟩=some (.int .i64 seq)/\u'.cell? ⟨w.heap.size,2,none⟩=some (.slice da dn dc)/\u'.cell? ⟨w.heap.size,3,none⟩=some (.slice ea en ec)) (by kernel_rfl) ?_ (fun hH=> ?_)
 ·(exact KE.o _ (ak _ _).drew)
 simp only [zS,aC,Nat.reduceAdd]
 refine bF 0 hH ?_;refine bF 1 hH ?_;refine bF 2 hH ?_;refine bF 3 hH ?_;refine bF 4 hH ?_;refine bF 5 hH ?_;refine bF 6 hH ?_;refine bF 7 hH ?_;refine bF 8 hH ?_;refine bF 9 hH ?_;refine bF 10 hH ?_;refine bF 11 hH ?_;refine bF 12 hH ?_;refine bF 13 hH ?_;refine bF 14 hH ?_;refine bF 15 hH ?_;refine bF 16 hH ?_;refine bF 17 hH ?_;refine bF 18 hH ?_;refine bF 19 hH ?_;refine bF 20 hH ?_;refine rd 21 fun K hK=> ?_
 go_simp
 refine (KD.o _ hH.1).mono ?_;rintro e s1 ⟨rfl,hb⟩;refine hK.out _ _ (KE.o _ (dz hH hb)) (fun hH=> ?_);clear hK K hb;refine bF 22 hH ?_;refine bF 23 hH ?_;refine bF 24 hH ?_;refine bF 25 hH ?_;refine bF 26 hH ?_;refine bF 27 hH ?_;refine bF 29 hH ?_;refine bF 30 hH ?_;refine bF 31 hH ?_;refine rd 28 fun K hK=> ?_
 go_simp
 refine (KA.o _ hH.1).mono ?_;rintro e s2 ⟨rfl,hb⟩;refine hK.out _ _ (KE.o _ (dz hH hb)) (fun hH=> ?_);clear hK K hb;refine bF 32 hH ?_;refine bF 33 hH ?_;refine bF 34 hH ?_;refine bF 35 hH ?_;refine bF 36 hH ?_;refine bF 37 hH ?_;refine bF 38 hH ?_;refine bF 39 hH ?_;refine bF 40 hH ?_;refine bF 41 hH ?_;refine bF 42 hH ?_;refine bF 43 hH ?_;refine bF 44 hH ?_;refine bF 45 hH ?_;refine bF 46 hH ?_;refine rd 47 fun K hK=> ?_
 go_simp
 refine (KR.o _ hH.1).mono ?_;rintro e s3 ⟨rfl,hb⟩;refine hK.out _ _ (KE.o _ (dz hH hb)) (fun hH=> ?_);clear hK K hb;refine bF 48 hH ?_;refine bF 49 hH ?_;refine bF 50 hH ?_;refine bF 51 hH ?_;refine bF 52 hH ?_;refine bF 53 hH ?_;refine bF 54 hH ?_;refine bF 55 hH ?_;refine bF 56 hH ?_;refine bF 57 hH ?_;refine rd 58 fun K hK=> ?_
 go_simp
 refine (KH.o _ hH.1).mono ?_;rintro e s4 ⟨rfl,hb⟩;refine hK.out _ _ (KE.o _ (dz hH hb)) (fun hH=> ?_);clear hK K hb;refine bF 59 hH ?_;refine bF 60 hH ?_;refine wpAnyH_done (by kernel_rfl) ?_ _;have GJ:Hid (Below w1.heap.size w1 _):=zH hH.1;clear hH;go_wp2_with fail
 go_ret
 exact ⟨rfl,G1.o.trans (GJ.o.mono G1.o.size)⟩
theorem l9{w:World}{node seq:Int}{da ea:Option Addr}{dn dc en ec:Nat}(h1:0<=node)(h2:node<8)(h3:1<=seq)(h4:seq<=1073741824)(h7:(en:Int)<=8)
  (KD:∀ W,Below (w.alloc (.cells #[.int .i64 node,.int .i64 seq,.slice da dn dc,.slice ea en ec] 34)).heap.size (w.alloc (.cells #[.int .i64 node,.int .i64 seq,.slice da dn dc,.slice ea en ec] 34)) W ->Calls prog 23 #[.slice da dn dc] W (bH W true))
  (sy m:Int) (h6:IntKind.i64.wrap (seq-1)=m) (vg:(sy==m)=true) (KA:∀ W,Below (w.alloc (.cells #[.int .i64 node,.int .i64 seq,.slice da dn dc,.slice ea en ec] 34)).heap.size (w.alloc (.cells #[.int .i64 node,.int .i64 seq,.slice da dn dc,.slice ea en ec] 34)) W ->Calls prog 21 #[.slice da dn dc,.int .i64 node] W fun e w'=>e= .returned (.int .i64 sy)/\Below W.heap.size W w')
  (KR:∀ W,Below (w.alloc (.cells #[.int .i64 node,.int .i64 seq,.slice da dn dc,.slice ea en ec] 34)).heap.size (w.alloc (.cells #[.int .i64 node,.int .i64 seq,.slice da dn dc,.slice ea en ec] 34)) W ->Calls prog 24 #[.int .i64 node,.int .i64 seq,.slice ea en ec] W (bH W true))
  (KH:∀ W,Below (w.alloc (.cells #[.int .i64 node,.int .i64 seq,.slice da dn dc,.slice ea en ec] 34)).heap.size (w.alloc (.cells #[.int .i64 node,.int .i64 seq,.slice da dn dc,.slice ea en ec] 34)) W ->Calls prog 25 #[.slice ea en ec,.int .i64 node,.int .i64 seq,.slice da dn dc] W (bH W true)) (g1:en<=9223372036854775807):
  Calls prog 16 #[.agg #[.int .i64 node,.int .i64 seq,.slice da dn dc,.slice ea en ec]] w (bH w true):=by
 have C1:=zH (lU w node seq da dn dc ea en ec);have Z1:Hid (w.heap.size<(w.alloc (.cells #[.int .i64 node,.int .i64 seq,.slice da dn dc,.slice ea en ec] 34)).heap.size):=zH (by simp);have G1:=zH (zB w (.cells #[.int .i64 node,.int .i64 seq,.slice da dn dc,.slice ea en ec] 34));replace KD:=zH KD;replace KA:=zH KA;replace KR:=zH KR;replace KH:=zH KH;go_enter func16,ntmps16
 go_upto_region 1 with fail
 generalize (w.alloc _)=w1 at*;have KE:=zH (lV C1.o Z1.o);refine wp_region_held_drew (S:=fun u'=>Below w1.heap.size w1 u'/\u'.cell? ⟨w.heap.size,0,none⟩=some (.int .i64 node)/\u'.cell? ⟨w.heap.size,1,none⟩=some (.int .i64 seq)/\u'.cell? ⟨w.heap.size,2,none⟩=some (.slice da dn dc)/\u'.cell? ⟨w.heap.size,3,none⟩=some (.slice ea en ec)) (by kernel_rfl) ?_ (fun hH=> ?_)
 ·(exact KE.o _ (ak _ _).drew)
 simp only [zS,aC,Nat.reduceAdd]
 refine bF 0 hH ?_;refine bF 1 hH ?_;refine bF 2 hH ?_;refine bF 3 hH ?_;refine bF 4 hH ?_;refine bF 5 hH ?_;refine bF 6 hH ?_;refine bF 7 hH ?_;refine bF 8 hH ?_;refine bF 9 hH ?_;refine bF 10 hH ?_;refine bF 11 hH ?_;refine bF 12 hH ?_;refine bF 13 hH ?_;refine bF 14 hH ?_;refine bF 15 hH ?_;refine bF 16 hH ?_;refine bF 17 hH ?_;refine bF 18 hH ?_;refine bF 19 hH ?_;refine bF 20 hH ?_;refine rd 21 fun K hK=> ?_
 go_simp
 refine (KD.o _ hH.1).mono ?_;rintro e s1 ⟨rfl,hb⟩;refine hK.out _ _ (KE.o _ (dz hH hb)) (fun hH=> ?_);clear hK K hb;refine bF 22 hH ?_;refine bF 23 hH ?_;refine bF 24 hH ?_;refine bF 25 hH ?_;refine bF 26 hH ?_;refine bF 27 hH ?_;refine bF 29 hH ?_;refine bF 30 hH ?_;refine bF 31 hH ?_;refine rd 28 fun K hK=> ?_
 go_simp
 refine (KA.o _ hH.1).mono ?_;rintro e s2 ⟨rfl,hb⟩;refine hK.out _ _ (KE.o _ (dz hH hb)) (fun hH=> ?_);clear hK K hb;refine bF 32 hH ?_;refine bF 33 hH ?_;refine bF 34 hH ?_;refine bF 35 hH ?_;refine bF 36 hH ?_;refine bF 37 hH ?_;refine bF 38 hH ?_;refine bF 39 hH ?_;refine bF 40 hH ?_;refine bF 41 hH ?_;refine bF 42 hH ?_;refine bF 43 hH ?_;refine bF 44 hH ?_;refine bF 45 hH ?_;refine bF 46 hH ?_;refine rd 47 fun K hK=> ?_
 go_simp
 refine (KR.o _ hH.1).mono ?_;rintro e s3 ⟨rfl,hb⟩;refine hK.out _ _ (KE.o _ (dz hH hb)) (fun hH=> ?_);clear hK K hb;refine bF 48 hH ?_;refine bF 49 hH ?_;refine bF 50 hH ?_;refine bF 51 hH ?_;refine bF 52 hH ?_;refine bF 53 hH ?_;refine bF 54 hH ?_;refine bF 55 hH ?_;refine bF 56 hH ?_;refine bF 57 hH ?_;refine rd 58 fun K hK=> ?_
 go_simp
 refine (KH.o _ hH.1).mono ?_;rintro e s4 ⟨rfl,hb⟩;refine hK.out _ _ (KE.o _ (dz hH hb)) (fun hH=> ?_);clear hK K hb;refine bF 59 hH ?_;refine bF 60 hH ?_;refine wpAnyH_done (by kernel_rfl) ?_ _;have GJ:Hid (Below w1.heap.size w1 _):=zH hH.1;clear hH;go_wp2_with fail
 go_ret
 exact ⟨rfl,G1.o.trans (GJ.o.mono G1.o.size)⟩
end Go.Proofs.Ytmknpmamkjjiaaa