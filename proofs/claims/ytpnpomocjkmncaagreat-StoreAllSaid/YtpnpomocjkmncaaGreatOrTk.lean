/- The program's own Take. (Written by gen-tk.py.) -/
import Derived.Test.YtpnpomocjkmncaaGreatOrNxs
import Derived.Test.YtpnpomocjkmncaaGreatOrLone
import Derived.Carry
namespace Go.Proofs.YtpnpomocjkmncaaGreat
open Go.RowKit Plain
set_option linter.unusedVariables false

theorem ownI_of {B : Nat} {w : World} {v : Value} {xs : List Int} (h : OwnE LInt B w v xs) : OwnsI B w v xs := by
 obtain ⟨vals, ho, hl, hr⟩ := h
 have e : vals = xs.map (Value.int .i64) := by
  apply List.ext_getElem?
  intro i
  by_cases hi : i < xs.length
  ·have h1 := hr i xs[i] (List.getElem?_eq_getElem hi)
   have h2 : (pt 1 vals i)[0]? = vals[i * 1 + 0]? := pt_get vals i 0 (by omega)
   have h3 : pt 1 vals i = [.int .i64 xs[i]] := h1
   rw [h3] at h2
   rw [show i = i * 1 + 0 by omega, ← h2]
   simp [hi]
  ·have h4 : vals.length = xs.length := by rw [hl]; show xs.length * 1 = _; omega
   rw [List.getElem?_eq_none (by omega), List.getElem?_eq_none (by rw [List.length_map]; omega)]
 unfold OwnsI
 rw [← e]
 exact ho
structure TakenAt (F : Nat → Prop) (B : Nat) (w : World) (tv : Value) (a : List PTxn) : Prop where
 row : OwnJ (fun b => ¬ F b) LTxn B w tv a
 out : ∀ k, tv.ownBlock = some k → ¬ F k
theorem TakenAt.nil (F : Nat → Prop) (B : Nat) (w : World) : TakenAt F B w (.slice none 0 0) [] := ⟨OwnJ.nil _ _ _, fun k h => by cases h⟩
theorem TakenAt.to {F F' : Nat → Prop} {B : Nat} {w w' : World} {tv : Value} {a : List PTxn} (h : TakenAt F B w tv a) (ft : FTo F w F' w') : TakenAt F' B w' tv a := by
 have hlt := h.row.lt
 have hs := ft.but.size
 have hn : ∀ b, b < w.heap.size → ¬ F b → ¬ F' b := fun b hb h1 h2 => (ft.new b h2).elim h1 fun e => by omega
 obtain ⟨vals, ho, hr⟩ := h.row
 refine ⟨⟨vals, ⟨ho.1, ?_⟩, (hr.agree fun b hb => ft.but.block b hb.2.1 hb.1).mono fun b hb => ⟨hn b hb.2.1 hb.1, Nat.lt_of_lt_of_le hb.2.1 hs, hb.2.2⟩⟩, fun k hk => hn k (hlt k hk).2 (h.out k hk)⟩
 rcases ho.2 with hz | ⟨g, cap, cur, hv, hb, hg, hr'⟩
 ·exact .inl hz
 ·exact .inr ⟨g, cap, cur, hv, hb, (ft.but.block g (hlt g (by rw [hv]; rfl)).2 (h.out g (by rw [hv]; rfl))).trans hg, hr'⟩
theorem nil_own {k : Nat} {p : Prop} (h : Value.ownBlock (.slice none 0 0) = some k) : p := by cases h
theorem txn_ne_int : 30 ≠ 3 := by decide
theorem WtAt.grown {F : Nat → Prop} {B : Nat} {w w' : World} {g : Nat} {l a : List PTxn} {v : Ints} {H : List Nat} {Bh : Int → Int → List Nat} {lv hv rv tv : Value} {m : Nat} {V : PDot → Value} {hs : List Int} (h : WtAt F B w g l v H Bh lv hv rv m V hs) (ht : TakenAt F B w tv a) (hg : w.grownBy w' tv.ownBlock) :
  WtAt F B w' g l v H Bh lv hv rv m V hs := by
 have hlt := ht.row.lt
 have hF : ∀ k, k < w.heap.size → F k → w'.heap[k]? = w.heap[k]? := fun k hk f => hg.block k hk fun e => ht.out k e.symm f
 have hvt : ∀ k, hv.ownBlock = some k → tv.ownBlock ≠ some k := fun k hk e => by
  obtain ⟨c, fz, h1⟩ := Lib.ownsRow_kind h.vec k hk
  obtain ⟨vals, ho, -⟩ := ht.row
  obtain ⟨c', fz', h2⟩ := Lib.ownsRow_kind ho k e
  rw [h1] at h2
  simp only [Option.some.injEq, Obj.cells.injEq] at h2
  exact txn_ne_int h2.2.1.symm
 exact ⟨⟨(hF g h.hp.lt h.Fg).trans h.hp.box, h.hp.row.keep fun k hk => hF k (h.hp.row.lt k hk).2 (h.Fr k hk), h.hp.low⟩, h.heap, h.perm, h.list.agree fun b hl => hg.block b (Nat.lt_of_lt_of_le hl h.size) fun e => by have := (hlt b e.symm).1; omega,
  h.vec.keep fun k hk => hg.block k (h.vec.lt k hk).2 fun e => hvt k hk e.symm, h.map.keep (hF m h.map.lt h.Fm), fun d => (h.rows d).keep fun k hk => hF k ((h.rows d).lt k hk).2 (h.FV d k hk), h.apart, h.apart2, h.Fg, h.Fm, h.Fr, h.FV, fun k f => ⟨(h.Flow k f).1, Nat.lt_of_lt_of_le (h.Flow k f).2 hg.size⟩, Nat.le_trans h.size hg.size, h.vecF⟩
theorem Wt.grown {F : Nat → Prop} {B : Nat} {w w' : World} {g : Nat} {l a : List PTxn} {v : Ints} {H : List Nat} {Bh : Int → Int → List Nat} {tv : Value} (h : Wt F B w g l v H Bh) (ht : TakenAt F B w tv a) (hg : w.grownBy w' tv.ownBlock) : Wt F B w' g l v H Bh := by
 obtain ⟨_, _, _, _, _, _, h⟩ := h
 exact (h.grown ht hg).is
theorem Wt.below {F : Nat → Prop} {B : Nat} {w w' : World} {g : Nat} {l : List PTxn} {v : Ints} {H : List Nat} {Bh : Int → Int → List Nat} (h : Wt F B w g l v H Bh) (hb : Below w.heap.size w w') : Wt F B w' g l v H Bh := by
 obtain ⟨_, _, _, _, _, _, h⟩ := h
 exact (h.below hb).is
theorem Wt.low {F : Nat → Prop} {B : Nat} {w : World} {g : Nat} {l : List PTxn} {v : Ints} {H : List Nat} {Bh : Int → Int → List Nat} (h : Wt F B w g l v H Bh) : (∀ k, F k → B ≤ k ∧ k < w.heap.size) ∧ B ≤ w.heap.size := by
 obtain ⟨_, _, _, _, _, _, h⟩ := h
 exact ⟨h.Flow, h.size⟩
theorem FTo.below {F F' : Nat → Prop} {B : Nat} {w w' : World} {g : Nat} {l : List PTxn} {v : Ints} {H : List Nat} {Bh : Int → Int → List Nat} (ft : FTo F w F' w') (h : Wt F B w g l v H Bh) : Below B w w' := ft.but.below h.low.2 fun k f => (h.low.1 k f).1
structure TakeRel (l : List PTxn) (v : Ints) (B g : Nat) (w0 : World) (tv : Value) (p : Nat) (b : Bool) (gm : List Bool) (wr : World) (F : Nat → Prop) (a : List PTxn) (u : Ints) : Prop where
 yes : b = true → ∃ H Bh, p < l.length ∧ OWait l u gm (p :: H) Bh [] ∧ (∀ j ∈ H, p ≤ j) ∧ oReady u (otx l p) = true ∧ Wt F B wr g l u H Bh
 no : b = false → ∃ Bh, OWait l u gm [] Bh [] ∧ Wt F B wr g l u [] Bh
 taken : TakenAt F B wr tv a
 all : oTake v l = a ++ oTake u (oLeft gm l)
 last : u = oEnd v a
 low : Below B w0 wr
 len : u.length ≤ 1000000
def GivesTake (w : World) (l : List PTxn) (v : Ints) (e : Ending) (w' : World) : Prop := ∃ a x, e = .returned (.tuple #[a, x]) ∧ SeqE LTxn w' a l ∧ SeqE LInt w' x v ∧ Below w.heap.size w w'
theorem takeRel_next {l a : List PTxn} {v u : Ints} {B g : Nat} {w0 w w' : World} {tv : Value} {gm : List Bool} {F : Nat → Prop} {Bh : Int → Int → List Nat} {H : List Nat} {e : Ending} (hn : NextTo F B w g l u gm Bh e w') (hw : Wt F B w g l u H Bh) (ht : TakenAt F B w tv a) (h1 : oTake v l = a ++ oTake u (oLeft gm l)) (h2 : u = oEnd v a) (h3 : Below B w0 w) (h4 : u.length ≤ 1000000) :
  ∃ (p : Nat) (b : Bool) (F' : Nat → Prop), e = .returned (.tuple #[.int .i64 (p : Int), .bool b]) ∧ TakeRel l v B g w0 tv p b gm w' F' a u := by
 rcases hn with ⟨p, F', H', rfl, k1, k2, k3, k4, k5, k6⟩ | ⟨F', rfl, k2, k5, k6⟩
 ·exact ⟨p, true, F', rfl, fun _ => ⟨H', Bh, k1, k2, k3, k4, k5⟩, (fun h => nomatch h), ht.to k6, h1, h2, h3.trans (k6.below hw), h4⟩
 ·exact ⟨0, false, F', rfl, (fun h => nomatch h), fun _ => ⟨Bh, k2, k5⟩, ht.to k6, h1, h2, h3.trans (k6.below hw), h4⟩
theorem takeRel_len {l a : List PTxn} {v u : Ints} {gm : List Bool} (h : oTake v l = a ++ oTake u (oLeft gm l)) : a.length ≤ l.length := by
 have := oTake_len v l
 rw [h, List.length_append] at this
 omega
set_option maxRecDepth 100000 in
set_option maxHeartbeats 16000000 in
theorem takeP_any {vv lv : Value} {v : Ints} {l : List PTxn} {w : World} (hv : SeqI w vv v) (hlv : SeqE LTxn w lv l) (hl : l.length ≤ 1000000) (hf : ∀ t ∈ l, FitW t) (hvl : v.length ≤ 1000000) :
  Calls Tryz.prog 52 #[vv, lv] w (GivesTake w (oTake v l) (oEnd v (oTake v l))) := by
 have KC := Lib.hid (tclone_any (seq_ofI hv) hvl)
 obtain ⟨va, vc, rfl, -, -, -, -⟩ := hv.parts
 obtain ⟨la, lc, rfl, L1, L2, -, -⟩ := hlv.parts
 have HL := Lib.hid hlv
 have HF := Lib.hid hf
 have hmm := @run_makeMap Tryz.prog
 obtain ⟨n, hn⟩ : ∃ n, n = l.length := ⟨_, rfl⟩
 have HNN := Lib.hid hn
 rw [← hn] at HL L1 ⊢
 clear hv hlv hf hn
 go_enter Tryz.func52, Tryz.ntmps52
 go_upto_region 2 with (go_at_call 55; refine KC.out.mono ?_; rintro e w1 ⟨v1, rfl, ho1, hb1⟩; have O1 := Lib.hid (ownI_of ho1); have G1 := Lib.hid hb1; obtain ⟨a1, cc1, rfl, -, -, -, -⟩ := ho1.parts; clear ho1 hb1 KC)
 have MW : Hid (MapAt (w1.alloc (.map #[] 0)) w1.heap.size (fun _ => .slice none 0 0)) := Lib.hid (MapAt.made w1)
 have BW : Hid (((w1.alloc (.map #[] 0)).alloc (.cells #[.slice la n lc, .slice a1 v.length cc1, .slice none 0 0, .map (some w1.heap.size)] 114)).heap[w1.heap.size + 1]? = some (wbox (.slice la n lc) (.slice a1 v.length cc1) (.slice none 0 0) (.map (some w1.heap.size)))) := Lib.hid (by have := heap_alloc_new (w1.alloc (.map #[] 0)) (.cells #[.slice la n lc, .slice a1 v.length cc1, .slice none 0 0, .map (some w1.heap.size)] 114); rw [show (w1.alloc (.map #[] 0)).heap.size = w1.heap.size + 1 by simp] at this; exact this)
 have GW : Hid (Below w1.heap.size w1 ((w1.alloc (.map #[] 0)).alloc (.cells #[.slice la n lc, .slice a1 v.length cc1, .slice none 0 0, .map (some w1.heap.size)] 114))) := Lib.hid (((Below.refl _ _).alloc (Nat.le_refl _) _).alloc (by simp) _)
 have MX : Hid (MapAt ((w1.alloc (.map #[] 0)).alloc (.cells #[.slice la n lc, .slice a1 v.length cc1, .slice none 0 0, .map (some w1.heap.size)] 114)) w1.heap.size (fun _ => .slice none 0 0)) := Lib.hid (MW.out.below ((Below.refl _ _).alloc (Nat.le_refl _) _))
 have ZW : Hid (w1.heap.size + 1 < ((w1.alloc (.map #[] 0)).alloc (.cells #[.slice la n lc, .slice a1 v.length cc1, .slice none 0 0, .map (some w1.heap.size)] 114)).heap.size) := Lib.hid (by simp)
 generalize ((w1.alloc (.map #[] 0)).alloc (.cells #[.slice la n lc, .slice a1 v.length cc1, .slice none 0 0, .map (some w1.heap.size)] 114)) = w3 at *
 obtain ⟨g, hg⟩ : ∃ g, g = w1.heap.size + 1 := ⟨_, rfl⟩
 rw [← hg] at BW ZW ⊢
 have HW : Hid (Wt (fun b => b = g ∨ b = w1.heap.size) w.heap.size w3 g l v [] (fun _ _ => [])) := Lib.hid ⟨_, _, _, w1.heap.size, _, [], ⟨BW.out, OwnsI.nil _ _, by have := G1.out.size; omega⟩, isHeap_nil, List.Perm.refl _, Sq.agree HL.out fun b hb => (GW.out.block b (Nat.lt_of_lt_of_le hb G1.out.size)).trans (G1.out.block b hb), O1.out.below GW.out (Nat.le_refl _), MX.out,
  fun d => by rw [show rowOf (fun _ _ => []) d = [] by unfold rowOf; split <;> rfl]; exact OwnsI.nil _ _, fun d e k h => nil_own h, fun d k h => nil_own h, .inl rfl, .inr rfl, fun k h => nil_own h, fun d k h => nil_own h, fun k h => by have := ZW.out; have := G1.out.size; omega, by have := GW.out.size; have := G1.out.size; omega, fun k hk h => by have := (O1.out.lt k hk).2; omega⟩
 have OW := Lib.hid (OWait.start l v)
 have G3 : Hid (Below w.heap.size w w3) := Lib.hid (G1.out.trans (GW.out.mono G1.out.size))
 clear MW BW GW MX ZW O1 G1 hg hmm
 go_wp2_with fail
 go_loopw [18] (fun i wr => ∃ k : Nat, k ≤ n ∧ i = .int .i64 k ∧ Aside (∃ F' H' Bh', Wt F' w.heap.size wr g l v H' Bh' ∧ OWait l v (List.replicate l.length false) H' Bh' ((List.range l.length).drop k) ∧ Below w.heap.size w wr)) (fun i _ => n - (intOf i).toNat)
 case atStart => exact ⟨0, Nat.zero_le _, rfl, _, _, _, HW.out, OW.out, G3.out⟩
 case round =>
  obtain ⟨k, hk, rfl, hrel⟩ := hrel
  obtain ⟨F1, H1, B1, w1', o1, g1⟩ := Aside.out hrel
  have W1 := Lib.hid w1'
  have OO1 := Lib.hid o1
  have GG1 := Lib.hid g1
  clear hrel w1' o1 g1
  by_cases hlt : k < n
  ·obtain ⟨lv', hv', rv', m', V', hs', h1⟩ := W1.out
   have hkl : k < l.length := by rw [← HNN.out]; exact hlt
   have KW := Lib.hid (wait_any (p := k) (Q := (List.range l.length).drop (k + 1)) h1 (by have := OO1.out; rw [List.drop_eq_getElem_cons (by simpa using hkl)] at this; simpa using this) hl HF.out hvl)
   have HH1 := Lib.hid h1
   have hk1 : (k : Int) < n := by omega
   clear h1 hkl
   go_wp2_with (go_at_call 91; refine KW.out.mono ?_; rintro e w7 ⟨rfl, F7, H7, B7, rv7, V7, hs7, w7', o7, f7, y7⟩; have R7 := Lib.hid (And.intro w7'.is (And.intro o7 (GG1.out.trans (f7.below HH1.out.is)))); clear w7' o7 f7 y7 KW)
   go_roundw
   case rel => exact ⟨k + 1, by omega, by go_num, _, _, _, R7.out⟩
   case measure => simp [intOf]; omega
  ·obtain rfl : k = n := by omega
   have OO2 : Hid (OWait l v (List.replicate l.length false) H1 B1 []) := Lib.hid (by have := OO1.out; rw [HNN.out] at this; rw [show ((List.range l.length).drop l.length) = [] by simp] at this; exact this)
   have KN := Lib.hid (next_any W1.out OO2.out hl HF.out hvl)
   clear OO1
   go_wp2_with (go_at_call 92; refine KN.out.mono ?_; intro e w2 hx; obtain ⟨p0, b0, F2, rfl, hR⟩ := takeRel_next hx W1.out (TakenAt.nil _ _ _) (show oTake v l = [] ++ oTake v (oLeft (List.replicate l.length false) l) by rw [oLeft_all, List.nil_append]) rfl GG1.out hvl; have R0 := Lib.hid hR; clear hx hR KN)
   clear W1 OO2 GG1
   go_loopg [8, 9, 10] l.length (fun gg tv s9 s10 wr => ∃ (p : Nat) (b : Bool) (gm : List Bool) (a : List PTxn) (F : Nat → Prop) (u : Ints), s9 = .int .i64 p ∧ s10 = .bool b ∧ Aside (TakeRel l v w.heap.size g w tv p b gm wr F a u ∧ (oLeft gm l).length ≤ gg))
   case atStart => exact ⟨p0, b0, _, _, _, _, rfl, rfl, R0.out, by rw [oLeft_all]; exact Nat.le_refl _⟩
   case round =>
    obtain ⟨p, b, gm, a, F, u, rfl, rfl, hrel⟩ := hrel
    obtain ⟨hR, hgg⟩ := Aside.out hrel
    have R := Lib.hid hR
    have HGG := Lib.hid hgg
    obtain ⟨ta, tc, rfl, -, -, -⟩ := hR.taken.row.at a.length rfl
    clear hrel hR hgg R0
    cases b
    ·obtain ⟨B2, o2, w2⟩ := R.out.no rfl
     have HALL : Hid (oTake v l = a) := Lib.hid (by rw [R.out.all, oTake_stop o2.done, List.append_nil])
     obtain ⟨lv2, hv2, rv2, m2, V2, hs2, k2⟩ := w2
     obtain ⟨⟨-, b1, -, -⟩, -, -⟩ := k2.hp.cell
     have SV := Lib.hid k2.vecS
     obtain ⟨xa, xc, rfl, -, -, -, -⟩ := SeqE.parts k2.vecS
     have SA : Hid (SeqE LTxn wr (.slice ta a.length tc) a) := Lib.hid R.out.taken.row.own.seq
     have GB := Lib.hid R.out.low
     have HLAST := Lib.hid R.out.last
     clear k2 o2 R
     go_wp2_with fail
     go_quiet (fail)
     go_wp2_with fail
     go_ret2
     exact ⟨_, _, rfl, by rw [HALL.out]; exact SA.out.drawn _, by rw [HALL.out, ← HLAST.out]; exact SV.out.drawn _, below_drewN GB.out _⟩
    ·obtain ⟨H2, B2, hp, o2, mn, rdy, w2⟩ := R.out.yes rfl
     have O2 := Lib.hid o2
     have W2 := Lib.hid w2
     have RDY := Lib.hid rdy
     have FST := Lib.hid (o2.first mn rdy)
     have AL := Lib.hid (takeRel_len R.out.all)
     have hft := HF.out (otx l p) (by rw [otx_lt hp]; exact List.getElem_mem hp)
     obtain ⟨lb, lo, lc', hsl, -, L6, hc⟩ := txns_spotB (B := w.heap.size) HL.out (Nat.le_refl _) (by omega)
     simp only [Value.slice.injEq] at hsl
     obtain ⟨rfl, rfl, rfl⟩ := hsl
     obtain ⟨da, dn, dc, ea, en, ec, TA, IT⟩ := hc p hp
     have HTA := Lib.hid (fun W (hb : Below w.heap.size w W) => TA.below hb TA.lt)
     have HIT := Lib.hid (fun W (hb : Below w.heap.size w W) => IT.below hb)
     have KA := Lib.hid (alone_any (HIT.out wr R.out.low) hft.deps hft.effs hft.drops)
     obtain ⟨c0, c1, c2, c3⟩ := HTA.out wr R.out.low
     have hp1 : (p : Int) < l.length := by omega
     have hp2 : (l.length : Int) ≤ lc := by omega
     have hp3 : (lc : Int) ≤ 9223372036854775807 := by omega
     have HN8 : Hid ((oNext u (otx l p)).length ≤ 1000000) := Lib.hid (by have := oNext_len u (otx l p); have := R.out.len; omega)
     clear TA IT hc o2 mn rdy w2 hft hp
     have HTT : Hid (∃ t, t = otx l p) := Lib.hid ⟨_, rfl⟩
     obtain ⟨t, hT⟩ := HTT.out
     rw [← hT] at c0 c1 HTA HIT KA RDY FST HN8
     have HT2 := Lib.hid hT
     clear hT HTT
     have FL := Lib.hid W2.out.low.1
     have HGI : Hid (∀ k, Value.ownBlock (.slice ta a.length tc) = some k → k < wr.heap.size) := Lib.hid (fun k hk => (R.out.taken.row.lt k hk).2)
     go_wp2_with (first
      | (go_at_call 93; refine KA.out.mono ?_; rintro e w3 ⟨dv, ev, rfl, sd, se, hb3⟩; have SD := Lib.hid sd; have SE := Lib.hid se; have GB3 := Lib.hid hb3; obtain ⟨ya, yc, rfl, -, -, -, -⟩ := SeqE.parts (L := LInt) (sd.mono fun b hb => hb.2); obtain ⟨za, zc, rfl, -, -, -, -⟩ := SeqE.parts (L := LEff) (se.mono fun b hb => hb.2); have T3 := Lib.hid (R.out.taken.to (FTo.of hb3)); have W3 := Lib.hid (W2.out.below hb3); clear sd se hb3 KA)
      | (at_builtin; refine wpList_append_elJ (fun b => ¬ F b) LTxn rfl (.tmp 33) (.tmp 39) rfl w.heap.size rfl (T3.out.row.alloc _) rfl (one_txnN (x := t) (C := wr.heap.size) (N := wr.heap.size) SD.out SE.out HGI.out GB3.out.size (Nat.le_refl _)) (fun vs x h => LTxn.mono h fun b hb => ⟨fun f => by have := (FL.out b f).2; have := hb.1; omega, hb.2⟩) (by have := AL.out; simp; omega) (by have := GB3.out.size; have := W2.out.low.2; simp; omega) ?_))
     intro v4 w4 ho4 hg4 hat4
     have BA : Hid (Below w3.heap.size w3 (w3.alloc (.cells #[.int .i64 t.node, .int .i64 t.seq, .slice ya t.deps.length yc, .slice za t.effs.length zc] 30))) := Lib.hid ((Below.refl _ _).alloc (Nat.le_refl _) _)
     have TA4 := Lib.hid (T3.out.to (FTo.of BA.out))
     have W4 := Lib.hid ((W3.out.below BA.out).grown TA4.out hg4)
     have T4 : Hid (TakenAt F w.heap.size w4 v4 (a ++ [t])) := Lib.hid ⟨ho4, fun k hk f => by
      rcases hat4 with e | e
      ·rw [e] at hk; exact T3.out.out k hk f
      ·rw [e] at hk; cases hk; have h1 := (W3.out.low.1 _ f).2; have h2 := BA.out.size; omega⟩
     have G4 : Hid (Below w.heap.size w w4) := Lib.hid (((R.out.low.trans (GB3.out.mono R.out.low.size)).trans (BA.out.mono (Nat.le_trans R.out.low.size GB3.out.size))).grown hg4 (by have := BA.out.size; have := GB3.out.size; have := R.out.low.size; omega) fun k hk => (T3.out.row.lt k hk).1)
     obtain ⟨t4, x4, rfl, -, -, -⟩ := ho4.at (a ++ [t]).length rfl
     obtain ⟨c0, c1, c2, c3⟩ := HTA.out w4 G4.out
     have KH := Lib.hid (hear_any (p := p) W4.out O2.out (by rw [← HT2.out]; exact RDY.out) (by have h4 := HIT.out w4 G4.out; rw [HT2.out] at h4; exact h4) hl HF.out R.out.len)
     rw [← HT2.out] at KH
     clear ho4 hg4 hat4
     go_wp2_with (first
      | (go_at_call 94; refine KH.out.mono ?_; rintro e w5 ⟨rfl, F5, H5, B5, w5', o5, f5⟩; rw [← HT2.out] at w5' o5; have W5 := Lib.hid w5'; have O5 := Lib.hid o5; have T5 := Lib.hid (T4.out.to f5); have G5 := Lib.hid (G4.out.trans (f5.below W4.out)); have KN5 := Lib.hid (next_any w5' o5 hl HF.out HN8.out); clear w5' o5 f5 KH)
      | (go_at_call 92; refine KN5.out.mono ?_; intro e w6 hx; obtain ⟨p6, b6, F6, rfl, hR6⟩ := takeRel_next hx W5.out T5.out (show oTake v l = (a ++ [t]) ++ oTake (oNext u t) (oLeft (gm.set p true) l) by rw [R.out.all, oTake_step FST.out, List.append_assoc]; rfl) (show oNext u t = oEnd v (a ++ [t]) by rw [oEnd_snoc, ← R.out.last]) G5.out HN8.out; have R6 := Lib.hid hR6; clear hx hR6 KN5))
     have hm := oFirst_len FST.out
     go_roundg (oLeft (gm.set p true) l).length
     case measure => have := HGG.out; omega
     case rel =>
      have R7 := R6.out
      rw [show (a ++ [t]).length = a.length + 1 by simp] at R7
      exact ⟨p6, b6, gm.set p true, a ++ [t], F6, oNext u t, rfl, rfl, R7, Nat.le_refl _⟩
end Go.Proofs.YtpnpomocjkmncaaGreat
