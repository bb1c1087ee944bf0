/- What the program's own putNums, putTexts and putEff of transactions leave. (Written by gen-put.py.) What the program's own putEff of transactions leaves. (Written by gen-put2.py.) -/
import Derived.Test.YtfapkepfngddlaaGreatEqI
import Derived.Test.YtfapkepfngddlaaGreatTxRds
import Derived.Test.YtfapkepfngddlaaGreatEMades
import Derived.Test.YtfapkepfngddlaaGreatEForms
import Derived.Deep.Cut
set_option maxRecDepth 100000
set_option maxHeartbeats 64000000
namespace Go.Proofs.YtfapkepfngddlaaGreat
open Go.RowKit Plain
set_option linter.unusedVariables false
theorem oneStr {vs : List Value} {x : Txt} (h : vs = [tv x]) : ∀ u ∈ vs, u.oneCell' = true := by
 subst h;intro u hu;rw [List.mem_singleton.1 hu]
 rfl
theorem infoStr : (Tryz.prog.info? 9).map (fun i => (i.zero, i.size, i.bytes)) = some (some (.string ByteArray.empty), 1, 16) := by kernel_rfl
def LStr : El Txt where
 k := 1
 E := 9
 S := 24
 zero := .string ByteArray.empty
 bytes := 16
 R := fun _ _ vs x => vs = [tv x]
 pos := by decide
 small := by decide
 len := fun h => by rw [h]; rfl
 one := oneStr
 mono := fun h _ => h
 agree := fun h _ => h
 und := Tryz.underlying24
 info := infoStr
 zsize := rfl
structure Grow (B : Nat) (w : World) (v : Value) (w' : World) (u : Value) : Prop where
 below : Below B w w'
 kept : ∀ b, b < w.heap.size → v.ownBlock ≠ some b → w'.heap[b]? = w.heap[b]?
 own : ∀ k, u.ownBlock = some k → v.ownBlock = some k ∨ w.heap.size ≤ k
theorem Grow.refl (B : Nat) (w : World) (v : Value) : Grow B w v w v := ⟨Below.refl _ _, fun _ _ _ => rfl, fun _ h => .inl h⟩
theorem Grow.keep {B : Nat} {w w' w'' : World} {v u : Value} (h : Grow B w v w' u) (hb : Below w'.heap.size w' w'') (hB : B ≤ w.heap.size) : Grow B w v w'' u :=
 ⟨h.below.trans (hb.mono (Nat.le_trans hB h.below.size)), fun b hl hn => (hb.block b (Nat.lt_of_lt_of_le hl h.below.size)).trans (h.kept b hl hn), h.own⟩
theorem Grow.app {B : Nat} {w w' w'' : World} {v u x : Value} (h : Grow B w v w' u) (hg : w'.grownBy w'' u.ownBlock) (hat : x.ownBlock = u.ownBlock ∨ x.ownBlock = some w'.heap.size) (hu : ∀ k, u.ownBlock = some k → B ≤ k) (hB : B ≤ w.heap.size) : Grow B w v w'' x := by
 have hs := h.below.size;refine ⟨h.below.grown hg (by omega) hu, fun b hl hn => (hg.block b (by omega) fun e => ?_).trans (h.kept b hl hn), fun k hk => ?_⟩
 ·rcases h.own b e.symm with e2 | e2
  ·exact hn e2
  ·omega
 ·rcases hat with e | e
  ·rw [e] at hk; exact h.own k hk
  ·rw [e] at hk; cases hk; exact .inr hs
theorem Grow.trans {B : Nat} {w w' w'' : World} {v u x : Value} (h : Grow B w v w' u) (k : Grow B w' u w'' x) : Grow B w v w'' x := by
 have hs := h.below.size;refine ⟨h.below.trans k.below, fun b hl hn => (k.kept b (by omega) fun e => ?_).trans (h.kept b hl hn), fun j hj => ?_⟩
 ·rcases h.own b e with e2 | e2
  ·exact hn e2
  ·omega
 ·rcases k.own j hj with e | e
  ·exact h.own j e
  ·exact .inr (by omega)
theorem Grow.size {B : Nat} {w w' : World} {v u : Value} (h : Grow B w v w' u) : w.heap.size ≤ w'.heap.size := h.below.size
def GivesO (B : Nat) (w : World) (v : Value) (xs : Bytes) (e : Ending) (w' : World) : Prop := ∃ u, e = .returned u ∧ By.Owns B w' u xs ∧ Grow B w v w' u
theorem Grow.sq {α : Type} {L : El α} {B : Nat} {w w' : World} {v u l : Value} {Q : Nat → Prop} {xs : List α} (h : Grow B w v w' u) (hl : Sq L Q w l xs) (hQ : ∀ b, Q b → b < w.heap.size ∧ v.ownBlock ≠ some b) : SeqE L w' l xs :=
 (hl.agree fun b hb => h.kept b (hQ b hb).1 (hQ b hb).2).mono fun b hb => Nat.lt_of_lt_of_le (hQ b hb).1 h.size
theorem lit_apart {α : Type} {L : El α} (w : World) (C : Array Value) (xs : List α) (v : Value) (hr : Rows L (· < w.heap.size) w C.toList xs) (hl : xs.length ≤ 1000000) (hf : Flat L) (hv : ∀ k, v.ownBlock = some k → k < w.heap.size) :
  Sq L (fun b => b < (w.alloc (.cells C L.E)).heap.size ∧ v.ownBlock ≠ some b) (w.alloc (.cells C L.E)) (.slice (some ⟨w.heap.size, 0, none⟩) xs.length xs.length) xs := by
 refine ⟨_, xs.length, C.toList, rfl, Nat.le_refl _, by unfold maxLen; omega, (by simp), ⟨hr.1, fun j x hj => hf (hr.2 j x hj)⟩, fun hp => ⟨w.heap.size, 0, rfl, ⟨by simp, fun e => by have := hv _ e; omega⟩, fun i u hi => ?_⟩⟩;rw [Nat.zero_add];rw [Array.getElem?_toList] at hi;simp only [World.cell?_alloc_new, hi]
theorem rows_flat {α : Type} {L : El α} (hk : L.k = 1) (P : Nat → Prop) (w : World) (f : α → Value) (hR : ∀ x, L.R P w [f x] x) : ∀ xs : List α, Rows L P w (xs.map f) xs
 | [] => Rows.nil _ _
 | x :: xs => (Rows.of_one (hR x)).append (rows_flat hk P w f hR xs)
theorem lit_ints (w : World) (C : Array Value) (ns : List Int) (v : Value) (hC : C.toList = ns.map (.int .i64)) (hl : ns.length ≤ 1000000) (hv : ∀ k, v.ownBlock = some k → k < w.heap.size) :
  Sq LInt (fun b => b < (w.alloc (.cells C 3)).heap.size ∧ v.ownBlock ≠ some b) (w.alloc (.cells C 3)) (.slice (some ⟨w.heap.size, 0, none⟩) ns.length ns.length) ns :=
 lit_apart (L := LInt) w C ns v (by rw [hC]; exact rows_flat rfl _ _ _ (fun _ => rfl) ns) hl flat_int hv
theorem flat_str : Flat LStr := fun h => h
theorem lit_strs (w : World) (C : Array Value) (ts : List Txt) (v : Value) (hC : C.toList = ts.map tv) (hl : ts.length ≤ 1000000) (hv : ∀ k, v.ownBlock = some k → k < w.heap.size) :
  Sq LStr (fun b => b < (w.alloc (.cells C 9)).heap.size ∧ v.ownBlock ≠ some b) (w.alloc (.cells C 9)) (.slice (some ⟨w.heap.size, 0, none⟩) ts.length ts.length) ts :=
 lit_apart (L := LStr) w C ts v (by rw [hC]; exact rows_flat rfl _ _ _ (fun _ => rfl) ts) hl flat_str hv
theorem flatMap_take {α : Type} [Inhabited α] (f : α → Bytes) (l : List α) {k : Nat} (hk : k < l.length) : (l.take (k + 1)).flatMap f = (l.take k).flatMap f ++ f (l.getD k default) := by
 rw [take_nextD hk, List.flatMap_append];simp
theorem flatMap_len {α : Type} (f : α → Bytes) (m : Nat) : ∀ (l : List α), (∀ x ∈ l, (f x).length ≤ m) → (l.flatMap f).length ≤ m * l.length
 | [], _ => by simp
 | x :: l, h => by
  rw [List.flatMap_cons, List.length_append, List.length_cons, Nat.mul_succ];have h1 := h x List.mem_cons_self;have h2 := flatMap_len f m l fun y hy => h y (List.mem_cons_of_mem _ hy)
  omega
theorem tmem_getD {α : Type} [Inhabited α] {l : List α} {k : Nat} (hk : k < l.length) : l.getD k default ∈ l := by
 rw [show l.getD k default = l[k] by simp [List.getD, List.getElem?_eq_getElem hk]];exact List.getElem_mem hk
theorem tform_bt (s : Txt) : tform (bt s) = form s.length ++ tbs s := rfl
theorem pnums_any {B : Nat} {v l : Value} {xs : Bytes} {ns : List Int} {Q : Nat → Prop} {w : World} (hv : By.Owns B w v xs) (hB : B ≤ w.heap.size) (hl : Sq LInt Q w l ns) (hQ : ∀ b, Q b → b < w.heap.size ∧ v.ownBlock ≠ some b) (hn : ∀ n ∈ ns, 0 ≤ n ∧ n < 72057594037927936) (hx : xs.length + 8 * ns.length ≤ 900000) :
  Calls Tryz.prog 149 #[v, l] w (GivesO B w v (xs ++ pnums ns)) := by
 have HL : Hid (∀ W u, Grow B w v W u → SeqE LInt W l ns) := zH (fun W u h => h.sq hl hQ);obtain ⟨la, lc, lvs, rfl, k1, k2, -⟩ := hl;have PS0 := zH (fun k (hk : k < ns.length) => flatMap_take (fun n => form (n : Int).toNat) ns (k := k) hk);obtain ⟨P, hP⟩ : ∃ P : Nat → Bytes, P = fun k => pnums (ns.take k) := ⟨_, rfl⟩
 have PS : Hid (∀ k, k < ns.length → P (k + 1) = P k ++ (form ((ns.getD k default) : Int).toNat)) := zH (fun k hk => by rw [hP]; exact PS0.out k hk);have P0 : Hid (P 0 = []) := zH (by rw [hP]; rfl);have PN : Hid (P ns.length = pnums ns) := zH (by rw [hP]; show pnums (ns.take ns.length) = _; rw [List.take_length]);have PL : Hid (∀ k, (P k).length ≤ 8 * ns.length) := zH (fun k => by
  rw [hP];refine Nat.le_trans (flatMap_len (fun n => form (n : Int).toNat) 8 (ns.take k) fun n h => ?_) (Nat.mul_le_mul_left _ (by rw [List.length_take]; omega));have := hn n (List.mem_of_mem_take h);exact form_len8 _ (by omega))
 have HM := zH (fun k (hk : k < ns.length) => hn _ (tmem_getD (l := ns) hk));have HO0 := zH hv;rw [← PN.out];clear hP PS0 PN hn hQ;have OU := zH hv.lt;obtain ⟨va, vc, rfl, -, -, -, -⟩ := hv.parts;have km : maxLen = 9223372036854775807 := rfl;rw [km] at k2;clear km;obtain ⟨n, hN⟩ : ∃ n, ns.length = n := ⟨_, rfl⟩;rw [hN] at hx k1 PS PL HM ⊢;have LN := zH hN;rw [hN] at HL;clear hv hN;generalize hxl : xs.length = xl at *;have XL := zH hxl;clear hxl;go_enter Tryz.func149, Tryz.ntmps149
 go_wp2_with fail
 go_loopw [0, 11] (fun z i wr => ∃ k : Nat, k ≤ n ∧ i = .int .i64 k ∧ By.Owns B wr z (xs ++ P k) ∧ Grow B w (.slice va xl vc) wr z) (fun _ i _ => n - (intOf i).toNat)
 case atStart => exact ⟨0, Nat.zero_le _, rfl, by rw [P0.out, List.append_nil]; exact HO0.out, Grow.refl _ _ _⟩
 case round =>
  obtain ⟨k, hk, rfl, ho, hg⟩ := hrel;have HO := zH ho;have HG := zH hg;clear ho hg
  by_cases hlt : k < n
  ·have PK := zH (PS.out k hlt)
   have LK := zH (PL.out k);have MK := HM.out k hlt;have SL := HL.out _ _ HG.out;obtain ⟨b, o, c, hv, -, -, -, hc⟩ := (seqI_of SL).spot (by rw [LN.out]; omega);rw [LN.out] at hv;simp only [Value.slice.injEq] at hv
   obtain ⟨rfl, -, rfl⟩ := hv;have c0 := hc k (by rw [LN.out]; exact hlt);clear hc;change _ = some (Value.int .i64 (ns.getD k default)) at c0;obtain ⟨m, hm⟩ : ∃ m : Nat, ns.getD k default = (m : Int) := ⟨(ns.getD k default).toNat, by omega⟩;rw [hm] at c0 MK PK;clear hm;have hm2 : m < 72057594037927936 := by omega
   clear MK;clear SL;obtain ⟨za, zc, rfl, -, -, -, -⟩ := HO.out.parts;generalize (xs ++ P k).length = zl at *;have KP := zH (By.putNum_ok (By.Seq.nil wr) (by simp) m hm2);have FL := form_len8 m hm2;replace PK : Hid (P (k + 1) = P k ++ form m) := PK;generalize form m = fm at *;go_wp2_with fail
   refine KP.out.mono ?_;rintro e w2 ⟨v2, rfl, ho2, hb2⟩;rw [List.nil_append] at ho2;have O2 := zH (HO.out.below hb2 (Nat.le_refl _));have G2 := zH (HG.out.keep hb2 hB);have S2 := zH ho2.seq;obtain ⟨a2, c2, rfl, -, -, -, -⟩ := ho2.parts;clear ho2 hb2 KP;have FL2 := zH FL;have Z2 := zH G2.out.size;clear FL;generalize hfe : fm.length = fl at *;have FE := zH hfe;clear hfe;go_wp2_with (at_builtin; refine By.wpList_append_seq rfl (.tmp 20) (.tmp 21) rfl B rfl O2.out rfl S2.out (by rw [List.length_append, XL.out, FE.out]; have := LK.out; have := FL2.out; omega) (by have := Z2.out; omega) ?_)
   intro v5 w5 ho5 hgr hat;have O5 := zH ho5;have G5 := zH (G2.out.app hgr hat (fun k hk => (O2.out.lt k hk).1) hB);clear ho5 hgr hat;go_wp2_with fail
   go_roundw
   case rel => exact ⟨k + 1, by omega, by go_num, by rw [PK.out]; exact O5.out, G5.out⟩
   case measure => simp [intOf] <;> omega
  ·obtain rfl : k = n := by omega
   go_wp2_with fail
   go_ret
   exact ⟨_, rfl, HO.out, HG.out⟩
theorem ptexts_any {B : Nat} {v l : Value} {xs : Bytes} {ns : List Txt} {Q : Nat → Prop} {w : World} (hv : By.Owns B w v xs) (hB : B ≤ w.heap.size) (hl : Sq LStr Q w l ns) (hQ : ∀ b, Q b → b < w.heap.size ∧ v.ownBlock ≠ some b) (hn : ∀ n ∈ ns, n.length ≤ 1000) (hx : xs.length + 1008 * ns.length ≤ 900000) :
  Calls Tryz.prog 176 #[v, l] w (GivesO B w v (xs ++ ptexts ns)) := by
 have HL : Hid (∀ W u, Grow B w v W u → SeqE LStr W l ns) := zH (fun W u h => h.sq hl hQ);obtain ⟨la, lc, lvs, rfl, k1, k2, -⟩ := hl;have PS0 := zH (fun k (hk : k < ns.length) => flatMap_take (fun n => form (n : Txt).length ++ tbs n) ns (k := k) hk);obtain ⟨P, hP⟩ : ∃ P : Nat → Bytes, P = fun k => ptexts (ns.take k) := ⟨_, rfl⟩
 have PS : Hid (∀ k, k < ns.length → P (k + 1) = P k ++ (form ((ns.getD k default) : Txt).length ++ tbs (ns.getD k default))) := zH (fun k hk => by rw [hP]; exact PS0.out k hk);have P0 : Hid (P 0 = []) := zH (by rw [hP]; rfl);have PN : Hid (P ns.length = ptexts ns) := zH (by rw [hP]; show ptexts (ns.take ns.length) = _; rw [List.take_length]);have PL : Hid (∀ k, (P k).length ≤ 1008 * ns.length) := zH (fun k => by
  rw [hP];refine Nat.le_trans (flatMap_len (fun n => form (n : Txt).length ++ tbs n) 1008 (ns.take k) fun n h => ?_) (Nat.mul_le_mul_left _ (by rw [List.length_take]; omega));have := hn n (List.mem_of_mem_take h);rw [List.length_append, tbs_len]; have := form_len8 n.length (by omega); omega)
 have HM := zH (fun k (hk : k < ns.length) => hn _ (tmem_getD (l := ns) hk));have HO0 := zH hv;rw [← PN.out];clear hP PS0 PN hn hQ;have OU := zH hv.lt;obtain ⟨va, vc, rfl, -, -, -, -⟩ := hv.parts;have km : maxLen = 9223372036854775807 := rfl;rw [km] at k2;clear km;obtain ⟨n, hN⟩ : ∃ n, ns.length = n := ⟨_, rfl⟩;rw [hN] at hx k1 PS PL HM ⊢;have LN := zH hN;rw [hN] at HL;clear hv hN;generalize hxl : xs.length = xl at *;have XL := zH hxl;clear hxl;go_enter Tryz.func176, Tryz.ntmps176
 go_wp2_with fail
 go_loopw [0, 11] (fun z i wr => ∃ k : Nat, k ≤ n ∧ i = .int .i64 k ∧ By.Owns B wr z (xs ++ P k) ∧ Grow B w (.slice va xl vc) wr z) (fun _ i _ => n - (intOf i).toNat)
 case atStart => exact ⟨0, Nat.zero_le _, rfl, by rw [P0.out, List.append_nil]; exact HO0.out, Grow.refl _ _ _⟩
 case round =>
  obtain ⟨k, hk, rfl, ho, hg⟩ := hrel;have HO := zH ho;have HG := zH hg;clear ho hg
  by_cases hlt : k < n
  ·have PK := zH (PS.out k hlt)
   have LK := zH (PL.out k);have MK := HM.out k hlt;have SL := HL.out _ _ HG.out;obtain ⟨b, o, c, hv, -, -, -, hc⟩ := SL.spot (by rw [LN.out]; omega);rw [LN.out] at hv;simp only [Value.slice.injEq] at hv
   obtain ⟨rfl, -, rfl⟩ := hv;obtain ⟨vs, hr, hc0⟩ := hc k _ (getD_at (by rw [LN.out]; exact hlt));obtain rfl : vs = [tv (ns.getD k default)] := hr;have c0 := hc0 0 _ rfl;clear hc hc0;rw [show o + (k * LStr.k + 0) = o + k by show o + (k * 1 + 0) = o + k; omega] at c0;unfold tv at c0;generalize ns.getD k default = t at *;clear SL;obtain ⟨za, zc, rfl, -, -, -, -⟩ := HO.out.parts;generalize (xs ++ P k).length = zl at *;have KP := zH (By.putText_ok (By.Seq.nil wr) (by simp) (bt t) (show (bt t).size ≤ 65536 by rw [bt_size]; omega));have FL : (form t.length ++ tbs t).length ≤ 1008 := by rw [List.length_append, tbs_len]; have := form_len8 t.length (by omega); omega
   rw [tform_bt] at KP;generalize form t.length ++ tbs t = fm at *;have hst : (bt t).size ≤ 1000 := MK;clear MK;go_wp2_with fail
   refine KP.out.mono ?_;rintro e w2 ⟨v2, rfl, ho2, hb2⟩;rw [List.nil_append] at ho2;have O2 := zH (HO.out.below hb2 (Nat.le_refl _));have G2 := zH (HG.out.keep hb2 hB);have S2 := zH ho2.seq;obtain ⟨a2, c2, rfl, -, -, -, -⟩ := ho2.parts;clear ho2 hb2 KP;have FL2 := zH FL;have Z2 := zH G2.out.size;clear FL;generalize hfe : fm.length = fl at *;have FE := zH hfe;clear hfe;go_wp2_with (at_builtin; refine By.wpList_append_seq rfl (.tmp 20) (.tmp 21) rfl B rfl O2.out rfl S2.out (by rw [List.length_append, XL.out, FE.out]; have := LK.out; have := FL2.out; omega) (by have := Z2.out; omega) ?_)
   intro v5 w5 ho5 hgr hat;have O5 := zH ho5;have G5 := zH (G2.out.app hgr hat (fun k hk => (O2.out.lt k hk).1) hB);clear ho5 hgr hat;go_wp2_with fail
   go_roundw
   case rel => exact ⟨k + 1, by omega, by go_num, by rw [PK.out]; exact O5.out, G5.out⟩
   case measure => simp [intOf] <;> omega
  ·obtain rfl : k = n := by omega
   go_wp2_with fail
   go_ret
   exact ⟨_, rfl, HO.out, HG.out⟩
theorem EffAt.same {w w' : World} {b o : Nat} {x : PEff} {dv : Value} (h : EffAt w b o x dv) (he : w'.heap[b]? = w.heap[b]?) : EffAt w' b o x dv := by
 have c : ∀ (j : Nat) (v : Value), w.cell? ⟨b, j, none⟩ = some v → w'.cell? ⟨b, j, none⟩ = some v := fun j v g => (World.cell?_of_block (w := w) (a := ⟨b, j, none⟩) he).trans g
 exact ⟨c _ _ h.c0, c _ _ h.c1, c _ _ h.c2, c _ _ h.c3, c _ _ h.c4, c _ _ h.c5, c _ _ h.c6⟩
def PutE (x : PEff) : Prop := (0 ≤ x.pos ∧ x.pos ≤ 7) ∧ x.key.length ≤ 1000 ∧ x.field.length ≤ 1000 ∧ (0 ≤ x.kind ∧ x.kind ≤ 3) ∧ x.elem.length ≤ 1000 ∧ Nm.Plain.fits x.n ∧ x.drops.length ≤ 64 ∧ ∀ d ∈ x.drops, dotB d = true
theorem pnums_len {ns : List Int} (h : ∀ n ∈ ns, 0 ≤ n ∧ n < 72057594037927936) : (pnums ns).length ≤ 8 * ns.length := flatMap_len _ 8 ns fun n hn => by have := h n hn; exact form_len8 _ (by omega)
theorem ptexts_len {ns : List Txt} (h : ∀ n ∈ ns, n.length ≤ 1000) : (ptexts ns).length ≤ 1008 * ns.length := flatMap_len _ 1008 ns fun n hn => by have := h n hn; rw [List.length_append, tbs_len]; have := form_len8 n.length (by omega); omega
theorem pdrops_len {ds : List PDot} (h : ∀ d ∈ ds, dotB d = true) : (pdrops ds).length ≤ 24 * ds.length := flatMap_len _ 24 ds fun d hd => by
 have := h d hd;unfold dotB at this;rw [decide_eq_true_iff] at this;exact pnums_len (ns := [d.node, d.seq, d.pos]) (by intro n hn; simp at hn; omega)
theorem peff_len {x : PEff} (h : PutE x) : (peff x).length ≤ 6000 := by
 obtain ⟨h1, h2, h3, h4, h5, h6, h7, h8⟩ := h;unfold peff;simp only [List.length_append]
 have a1 := pnums_len (ns := [x.pos]) (by intro n hn; simp at hn; omega);have a2 := ptexts_len (ns := [x.key, x.field]) (by intro n hn; simp at hn; rcases hn with rfl | rfl <;> omega);have a3 := pnums_len (ns := [x.kind]) (by intro n hn; simp at hn; omega);have a4 := ptexts_len (ns := [x.elem]) (by intro n hn; simp at hn; subst hn; omega);have a5 := iform_len x.n;have a6 := pnums_len (ns := [(x.drops.length : Int)]) (by intro n hn; simp at hn; omega);have a7 := pdrops_len h8;simp at a1 a2 a3 a4 a6
 omega
theorem peff_any {B : Nat} {v : Value} {xs : Bytes} {x : PEff} {da : Option Addr} {m dc : Nat} {w : World} (hv : By.Owns B w v xs) (hB : B ≤ w.heap.size) (hd : Sq LDot (· < B) w (.slice da m dc) x.drops) (hp : PutE x) (hl : xs.length ≤ 500000) :
  Calls Tryz.prog 150 #[v, .agg #[.int .i64 x.pos, .string (bt x.key), .string (bt x.field), .int .i64 x.kind, .string (bt x.elem), .int .i64 x.n, .slice da m dc]] w (GivesO B w v (xs ++ peff x)) := by
 have EB := zH (effAt_box w x da m dc);have ZE : Hid (w.heap.size < (w.alloc (.cells #[.int .i64 x.pos, .string (bt x.key), .string (bt x.field), .int .i64 x.kind, .string (bt x.elem), .int .i64 x.n, .slice da m dc] 54)).heap.size) := zH (by simp);have ZB : Hid (B ≤ (w.alloc (.cells #[.int .i64 x.pos, .string (bt x.key), .string (bt x.field), .int .i64 x.kind, .string (bt x.elem), .int .i64 x.n, .slice da m dc] 54)).heap.size) := zH (by simp; omega);have NE : Hid (v.ownBlock ≠ some w.heap.size) := zH (fun e => by have := (hv.lt _ e).2; omega);have GW : Hid (Grow B w v (w.alloc (.cells #[.int .i64 x.pos, .string (bt x.key), .string (bt x.field), .int .i64 x.kind, .string (bt x.elem), .int .i64 x.n, .slice da m dc] 54)) v) := zH ((Grow.refl B w v).keep ((Below.refl _ _).alloc (Nat.le_refl _) _) hB);have O0 := zH (hv.alloc (.cells #[.int .i64 x.pos, .string (bt x.key), .string (bt x.field), .int .i64 x.kind, .string (bt x.elem), .int .i64 x.n, .slice da m dc] 54));have HD : Hid (∀ W u, Grow B (w.alloc (.cells #[.int .i64 x.pos, .string (bt x.key), .string (bt x.field), .int .i64 x.kind, .string (bt x.elem), .int .i64 x.n, .slice da m dc] 54)) v W u → SeqE LDot W (.slice da m dc) x.drops) := zH (fun W u h => h.sq (hd.agree fun b hb => (zB w (.cells #[.int .i64 x.pos, .string (bt x.key), .string (bt x.field), .int .i64 x.kind, .string (bt x.elem), .int .i64 x.n, .slice da m dc] 54)).block b (by omega)) (fun b hb => ⟨by simp; omega, fun e => by have := (hv.lt _ e).1; omega⟩));have G0 := zH (Grow.refl B (w.alloc (.cells #[.int .i64 x.pos, .string (bt x.key), .string (bt x.field), .int .i64 x.kind, .string (bt x.elem), .int .i64 x.n, .slice da m dc] 54)) v);obtain ⟨p1, p2, p3, p4, p5, p6, p7, p8⟩ := hp;have P1 := zH p1;have P2 := zH p2;have P3 := zH p3;have P4 := zH p4;have P5 := zH p5;have P6 := zH p6;have P7 := zH p7;have P8 := zH p8;obtain ⟨hdn, hd1, hd2⟩ := (show SeqE LDot w (.slice da m dc) x.drops from hd.mono (Q := (· < w.heap.size)) fun b hb => Nat.lt_of_lt_of_le hb hB).dims;have HPE : Hid (peff x = pnums [x.pos] ++ ptexts [x.key, x.field] ++ pnums [x.kind] ++ ptexts [x.elem] ++ iform x.n ++ pnums [(x.drops.length : Int)] ++ pdrops x.drops) := zH rfl;have PS0 := zH (fun k (hk : k < x.drops.length) => flatMap_take (fun d : PDot => pnums [d.node, d.seq, d.pos]) x.drops (k := k) hk);obtain ⟨P, hP⟩ : ∃ P : Nat → Bytes, P = fun k => pdrops (x.drops.take k) := ⟨_, rfl⟩
 have PS : Hid (∀ k, k < x.drops.length → P (k + 1) = P k ++ pnums [(x.drops.getD k default).node, (x.drops.getD k default).seq, (x.drops.getD k default).pos]) := zH (fun k hk => by rw [hP]; exact PS0.out k hk);have P0 : Hid (P 0 = []) := zH (by rw [hP]; rfl);have PN : Hid (P x.drops.length = pdrops x.drops) := zH (by rw [hP]; show pdrops (x.drops.take x.drops.length) = _; rw [List.take_length]);have PL : Hid (∀ k, (P k).length ≤ 1536) := zH (fun k => by
  rw [hP];have h1 := pdrops_len (ds := x.drops.take k) (fun d hd => p8 d (List.mem_of_mem_take hd));have h2 : (x.drops.take k).length ≤ 64 := by rw [List.length_take]; omega
  exact Nat.le_trans h1 (by omega))
 clear hP PS0 hd p1 p2 p3 p4 p5 p6 p7 p8;rw [hdn] at HPE PS PN P7;have LM := zH hdn;clear hdn;obtain ⟨a0, c0, rfl, -, -, -, -⟩ := hv.parts;clear hv;generalize hxl : xs.length = xl at *;have M0 := zH hxl;have N0 : Hid (xs.length ≤ xl + 0) := zH (by omega);clear hxl;obtain ⟨Y0, hY0⟩ : ∃ Y, Y = xs := ⟨_, rfl⟩;rw [← hY0] at O0 M0 N0 ⊢;clear hY0;obtain ⟨n0, hn0⟩ : ∃ n, n = xl := ⟨_, rfl⟩;rw [← hn0] at O0 G0 HD NE GW ⊢;go_enter Tryz.func150, Tryz.ntmps150
 go_upto_region 1 with fail
 clear hn0;generalize (w.alloc (.cells #[.int .i64 x.pos, .string (bt x.key), .string (bt x.field), .int .i64 x.kind, .string (bt x.elem), .int .i64 x.n, .slice da m dc] 54)) = u0 at *;have K1 : Hid (Calls Tryz.prog 149 #[.slice a0 n0 c0, .slice (some ⟨u0.heap.size, 0, none⟩) 1 1] (u0.alloc (.cells #[.int .i64 x.pos] 3)) (GivesO B (u0.alloc (.cells #[.int .i64 x.pos] 3)) (.slice a0 n0 c0) (Y0 ++ pnums [x.pos]))) := zH (pnums_any (O0.out.alloc _) (by have := G0.out.size; have := ZB.out; simp; omega) (lit_ints u0 #[.int .i64 x.pos] [x.pos] (.slice a0 n0 c0) rfl (by simp) (fun k hk => (O0.out.lt k hk).2)) (fun b hb => hb) (by intro n hn; simp at hn; have := P1.out; omega) (by have := N0.out; simp; omega));have LL1 := pnums_len (ns := [x.pos]) (by intro n hn; simp at hn; have := P1.out; omega);simp only [List.length_cons, List.length_nil] at LL1
 obtain ⟨e0, e1, e2, e3, e4, e5, e6⟩ := (EB.out.same (G0.out.kept _ ZE.out NE.out)).zero;go_wp2_with fail
 refine K1.out.mono ?_;rintro e u1 ⟨v', rfl, ho, hg⟩;have G1 := zH ((G0.out.keep ((Below.refl _ _).alloc (Nat.le_refl _) _) ZB.out).trans hg);obtain ⟨a1, c1, rfl, -, -, -, -⟩ := ho.parts;have O1 := zH ho;clear ho hg K1;have YL : (Y0 ++ pnums [x.pos]).length ≤ xl + 8 := by rw [List.length_append]; have := N0.out; omega
 clear LL1;generalize hn : (Y0 ++ pnums [x.pos]).length = n1 at *;generalize hY : Y0 ++ pnums [x.pos] = Y1 at *;have E1 := zH hY.symm;have N1 : Hid (Y1.length ≤ xl + 8) := zH (by rw [hn]; exact YL);have M1 := zH hn;clear hn hY YL;clear e0 e1 e2 e3 e4 e5 e6;have K2 : Hid (Calls Tryz.prog 176 #[.slice a1 n1 c1, .slice (some ⟨u1.heap.size, 0, none⟩) 2 2] (u1.alloc (.cells #[.string (bt x.key), .string (bt x.field)] 9)) (GivesO B (u1.alloc (.cells #[.string (bt x.key), .string (bt x.field)] 9)) (.slice a1 n1 c1) (Y1 ++ ptexts [x.key, x.field]))) := zH (ptexts_any (O1.out.alloc _) (by have := G1.out.size; have := ZB.out; simp; omega) (lit_strs u1 #[.string (bt x.key), .string (bt x.field)] [x.key, x.field] (.slice a1 n1 c1) rfl (by simp) (fun k hk => (O1.out.lt k hk).2)) (fun b hb => hb) (by intro n hn; simp at hn; rcases hn with rfl | rfl; exact P2.out; exact P3.out) (by have := N1.out; simp; omega));have LL2 := ptexts_len (ns := [x.key, x.field]) (by intro n hn; simp at hn; rcases hn with rfl | rfl; exact P2.out; exact P3.out);simp only [List.length_cons, List.length_nil] at LL2
 obtain ⟨e0, e1, e2, e3, e4, e5, e6⟩ := (EB.out.same (G1.out.kept _ ZE.out NE.out)).zero;go_wp2_with fail
 refine K2.out.mono ?_;rintro e u2 ⟨v', rfl, ho, hg⟩;have G2 := zH ((G1.out.keep ((Below.refl _ _).alloc (Nat.le_refl _) _) ZB.out).trans hg);obtain ⟨a2, c2, rfl, -, -, -, -⟩ := ho.parts;have O2 := zH ho;clear ho hg K2;have YL : (Y1 ++ ptexts [x.key, x.field]).length ≤ xl + 2024 := by rw [List.length_append]; have := N1.out; omega
 clear LL2;generalize hn : (Y1 ++ ptexts [x.key, x.field]).length = n2 at *;generalize hY : Y1 ++ ptexts [x.key, x.field] = Y2 at *;have E2 := zH hY.symm;have N2 : Hid (Y2.length ≤ xl + 2024) := zH (by rw [hn]; exact YL);have M2 := zH hn;clear hn hY YL;clear e0 e1 e2 e3 e4 e5 e6;have K3 : Hid (Calls Tryz.prog 149 #[.slice a2 n2 c2, .slice (some ⟨u2.heap.size, 0, none⟩) 1 1] (u2.alloc (.cells #[.int .i64 x.kind] 3)) (GivesO B (u2.alloc (.cells #[.int .i64 x.kind] 3)) (.slice a2 n2 c2) (Y2 ++ pnums [x.kind]))) := zH (pnums_any (O2.out.alloc _) (by have := G2.out.size; have := ZB.out; simp; omega) (lit_ints u2 #[.int .i64 x.kind] [x.kind] (.slice a2 n2 c2) rfl (by simp) (fun k hk => (O2.out.lt k hk).2)) (fun b hb => hb) (by intro n hn; simp at hn; have := P4.out; omega) (by have := N2.out; simp; omega));have LL3 := pnums_len (ns := [x.kind]) (by intro n hn; simp at hn; have := P4.out; omega);simp only [List.length_cons, List.length_nil] at LL3
 obtain ⟨e0, e1, e2, e3, e4, e5, e6⟩ := (EB.out.same (G2.out.kept _ ZE.out NE.out)).zero;go_wp2_with fail
 refine K3.out.mono ?_;rintro e u3 ⟨v', rfl, ho, hg⟩;have G3 := zH ((G2.out.keep ((Below.refl _ _).alloc (Nat.le_refl _) _) ZB.out).trans hg);obtain ⟨a3, c3, rfl, -, -, -, -⟩ := ho.parts;have O3 := zH ho;clear ho hg K3;have YL : (Y2 ++ pnums [x.kind]).length ≤ xl + 2032 := by rw [List.length_append]; have := N2.out; omega
 clear LL3;generalize hn : (Y2 ++ pnums [x.kind]).length = n3 at *;generalize hY : Y2 ++ pnums [x.kind] = Y3 at *;have E3 := zH hY.symm;have N3 : Hid (Y3.length ≤ xl + 2032) := zH (by rw [hn]; exact YL);have M3 := zH hn;clear hn hY YL;clear e0 e1 e2 e3 e4 e5 e6;have K4 : Hid (Calls Tryz.prog 176 #[.slice a3 n3 c3, .slice (some ⟨u3.heap.size, 0, none⟩) 1 1] (u3.alloc (.cells #[.string (bt x.elem)] 9)) (GivesO B (u3.alloc (.cells #[.string (bt x.elem)] 9)) (.slice a3 n3 c3) (Y3 ++ ptexts [x.elem]))) := zH (ptexts_any (O3.out.alloc _) (by have := G3.out.size; have := ZB.out; simp; omega) (lit_strs u3 #[.string (bt x.elem)] [x.elem] (.slice a3 n3 c3) rfl (by simp) (fun k hk => (O3.out.lt k hk).2)) (fun b hb => hb) (by intro n hn; simp at hn; subst hn; exact P5.out) (by have := N3.out; simp; omega));have LL4 := ptexts_len (ns := [x.elem]) (by intro n hn; simp at hn; subst hn; exact P5.out);simp only [List.length_cons, List.length_nil] at LL4
 obtain ⟨e0, e1, e2, e3, e4, e5, e6⟩ := (EB.out.same (G3.out.kept _ ZE.out NE.out)).zero;go_wp2_with fail
 refine K4.out.mono ?_;rintro e u4 ⟨v', rfl, ho, hg⟩;have G4 := zH ((G3.out.keep ((Below.refl _ _).alloc (Nat.le_refl _) _) ZB.out).trans hg);obtain ⟨a4, c4, rfl, -, -, -, -⟩ := ho.parts;have O4 := zH ho;clear ho hg K4;have YL : (Y3 ++ ptexts [x.elem]).length ≤ xl + 3040 := by rw [List.length_append]; have := N3.out; omega
 clear LL4;generalize hn : (Y3 ++ ptexts [x.elem]).length = n4 at *;generalize hY : Y3 ++ ptexts [x.elem] = Y4 at *;have E4 := zH hY.symm;have N4 : Hid (Y4.length ≤ xl + 3040) := zH (by rw [hn]; exact YL);have M4 := zH hn;clear hn hY YL;clear e0 e1 e2 e3 e4 e5 e6;have KI := zH (By.putInt_any (By.Seq.nil u4) (by simp) x.n P6.out.1 P6.out.2);obtain ⟨e0, e1, e2, e3, e4, e5, e6⟩ := (EB.out.same (G4.out.kept _ ZE.out NE.out)).zero;go_wp2_with fail
 refine KI.out.mono ?_;rintro e u4b ⟨v2, rfl, ho2, hb2⟩;rw [List.nil_append] at ho2;have O4b := zH (O4.out.below hb2 (Nat.le_refl _));have G4b := zH (G4.out.keep hb2 ZB.out);have S4 := zH ho2.seq;have IL := zH (iform_len x.n);obtain ⟨a2, c2, rfl, -, -, -, -⟩ := ho2.parts;clear ho2 hb2 KI e0 e1 e2 e3 e4 e5 e6;generalize hil : (iform x.n).length = il at *;clear hil;generalize hIF : iform x.n = IF at *;have IFE := zH hIF.symm;clear hIF;have ILF : Hid (IF.length = il) := zH (by
  obtain ⟨a, c, hv, -⟩ := S4.out;simp only [Value.slice.injEq] at hv
  exact hv.2.1.symm)
 go_wp2_with (at_builtin; refine By.wpList_append_seq rfl (.tmp 29) (.tmp 32) rfl B rfl O4b.out rfl S4.out (by rw [ILF.out]; have := N4.out; have := IL.out; omega) (by have := G4b.out.size; have := ZB.out; omega) ?_)
 intro v5 u5 ho hgr hat;have G5 := zH (G4b.out.app hgr hat (fun k hk => (O4b.out.lt k hk).1) ZB.out);obtain ⟨a5, c5, rfl, -, -, -, -⟩ := ho.parts;have O5 := zH ho;clear ho hgr hat;have YL : (Y4 ++ IF).length ≤ xl + 3048 := by rw [List.length_append, ILF.out]; have := N4.out; have := IL.out; omega
 generalize hn : (Y4 ++ IF).length = n5 at *;generalize hY : Y4 ++ IF = Y5 at *;have E5 := zH hY.symm;have N5 : Hid (Y5.length ≤ xl + 3048) := zH (by rw [hn]; exact YL);have M5 := zH hn;clear hn hY YL IL;have K6 : Hid (Calls Tryz.prog 149 #[.slice a5 n5 c5, .slice (some ⟨u5.heap.size, 0, none⟩) 1 1] (u5.alloc (.cells #[.int .i64 (m : Int)] 3)) (GivesO B (u5.alloc (.cells #[.int .i64 (m : Int)] 3)) (.slice a5 n5 c5) (Y5 ++ pnums [(m : Int)]))) := zH (pnums_any (O5.out.alloc _) (by have := G5.out.size; have := ZB.out; simp; omega) (lit_ints u5 #[.int .i64 (m : Int)] [(m : Int)] (.slice a5 n5 c5) rfl (by simp) (fun k hk => (O5.out.lt k hk).2)) (fun b hb => hb) (by intro n hn; simp at hn; have := P7.out; omega) (by have := N5.out; simp; omega));have LL6 := pnums_len (ns := [(m : Int)]) (by intro n hn; simp at hn; have := P7.out; omega);simp only [List.length_cons, List.length_nil] at LL6
 obtain ⟨e0, e1, e2, e3, e4, e5, e6⟩ := (EB.out.same (G5.out.kept _ ZE.out NE.out)).zero;go_wp2_with fail
 refine K6.out.mono ?_;rintro e u6 ⟨v', rfl, ho, hg⟩;have G6 := zH ((G5.out.keep ((Below.refl _ _).alloc (Nat.le_refl _) _) ZB.out).trans hg);obtain ⟨a6, c6, rfl, -, -, -, -⟩ := ho.parts;have O6 := zH ho;clear ho hg K6;have YL : (Y5 ++ pnums [(m : Int)]).length ≤ xl + 3056 := by rw [List.length_append]; have := N5.out; omega
 clear LL6;generalize hn : (Y5 ++ pnums [(m : Int)]).length = n6 at *;generalize hY : Y5 ++ pnums [(m : Int)] = Y6 at *;have E6 := zH hY.symm;have N6 : Hid (Y6.length ≤ xl + 3056) := zH (by rw [hn]; exact YL);have M6 := zH hn;clear hn hY YL;clear e0 e1 e2 e3 e4 e5 e6;obtain ⟨e0, e1, e2, e3, e4, e5, e6⟩ := (EB.out.same (G6.out.kept _ ZE.out NE.out)).zero;go_wp2_with fail
 clear e0 e1 e2 e3 e4 e5 e6
 go_loopw [0, 43] (fun z i wr => ∃ k : Nat, k ≤ m ∧ i = .int .i64 k ∧ By.Owns B wr z (Y6 ++ P k) ∧ Grow B u0 (.slice a0 n0 c0) wr z) (fun _ i _ => m - (intOf i).toNat)
 case atStart => exact ⟨0, Nat.zero_le _, rfl, by rw [P0.out, List.append_nil]; exact O6.out, G6.out⟩
 case round =>
  obtain ⟨k, hk, rfl, ho, hg⟩ := hrel;have HO := zH ho;have HG := zH hg;clear ho hg
  by_cases hlt : k < m
  ·have PK := zH (PS.out k hlt)
   have LK := zH (PL.out k);obtain ⟨b, o, c, hv, -, -, -, hc⟩ := dots_spot (HD.out _ _ HG.out) (by rw [LM.out]; omega);rw [LM.out] at hv;simp only [Value.slice.injEq] at hv
   obtain ⟨rfl, -, rfl⟩ := hv;obtain ⟨d0, d1, d2⟩ := hc k (by rw [LM.out]; exact hlt);have DR := P8.out _ (tmem_getD (l := x.drops) (k := k) (by rw [LM.out]; exact hlt));clear hc;generalize x.drops.getD k default = d at *;unfold dotB at DR;rw [decide_eq_true_iff] at DR;have DRH := zH DR;clear DR;obtain ⟨za, zc, rfl, -, -, -, -⟩ := HO.out.parts;generalize hzl : (Y6 ++ P k).length = zl at *;have ZL := zH hzl;clear hzl;have DB : Hid (DotAt (wr.alloc (.cells #[.int .i64 d.node, .int .i64 d.seq, .int .i64 d.pos] 45)) wr.heap.size 0 d) := zH ⟨by simp, by simp, by simp⟩;have OB := zH (HO.out.alloc (.cells #[.int .i64 d.node, .int .i64 d.seq, .int .i64 d.pos] 45));have GB := zH (HG.out.keep ((Below.refl _ _).alloc (Nat.le_refl _) (.cells #[.int .i64 d.node, .int .i64 d.seq, .int .i64 d.pos] 45)) ZB.out);go_upto_region 10 with fail
   clear d0 d1 d2;generalize (wr.alloc (.cells #[.int .i64 d.node, .int .i64 d.seq, .int .i64 d.pos] 45)) = wd at *;obtain ⟨d0, d1, d2⟩ := DB.out;simp only [Nat.zero_add] at d1 d2
   have K7 : Hid (Calls Tryz.prog 149 #[.slice za zl zc, .slice (some ⟨wd.heap.size, 0, none⟩) 3 3] (wd.alloc (.cells #[.int .i64 d.node, .int .i64 d.seq, .int .i64 d.pos] 3)) (GivesO B (wd.alloc (.cells #[.int .i64 d.node, .int .i64 d.seq, .int .i64 d.pos] 3)) (.slice za zl zc) ((Y6 ++ P k) ++ pnums [d.node, d.seq, d.pos]))) := zH (pnums_any (OB.out.alloc _) (by have := GB.out.size; have := ZB.out; simp; omega) (lit_ints wd #[.int .i64 d.node, .int .i64 d.seq, .int .i64 d.pos] [d.node, d.seq, d.pos] (.slice za zl zc) rfl (by simp) (fun k hk => (OB.out.lt k hk).2)) (fun b hb => hb) (by intro n hn; simp at hn; have := DRH.out; omega) (by rw [List.length_append]; have := N6.out; have := LK.out; simp; omega));go_wp2_with fail
   refine K7.out.mono ?_;rintro e u7 ⟨v', rfl, ho, hg⟩;have G7 := zH ((GB.out.keep ((Below.refl _ _).alloc (Nat.le_refl _) _) ZB.out).trans hg);have O7 := zH ho;obtain ⟨a7, c7, rfl, -, -, -, -⟩ := ho.parts;clear ho hg K7 d0 d1 d2;generalize hnn : (Y6 ++ P k ++ pnums [d.node, d.seq, d.pos]).length = n7 at *;clear hnn;go_wp2_with fail
   go_roundw
   case rel => exact ⟨k + 1, by omega, by go_num, by rw [PK.out, ← List.append_assoc]; exact O7.out, G7.out⟩
   case measure => simp [intOf] <;> omega
  ·obtain rfl : k = m := by omega
   have OE : Hid (By.Owns B wr _ (Y0 ++ peff x)) := zH (by
    have h := HO.out;rw [E6.out, E5.out, E4.out, E3.out, E2.out, E1.out, PN.out] at h;rw [HPE.out]
    simpa only [List.append_assoc] using h)
   go_wp2_with fail
   go_ret
   exact ⟨_, rfl, OE.out, GW.out.trans HG.out⟩
end Go.Proofs.YtfapkepfngddlaaGreat
