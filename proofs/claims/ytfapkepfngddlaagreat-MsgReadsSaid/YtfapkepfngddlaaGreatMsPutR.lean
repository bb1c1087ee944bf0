/- Messages as plain mathematics: when one is formed, its bytes, how they are read; the laws of P17.3, and what a formed Push or Delta says. The document's own look at a message's vectors and zones: may, right. When a message is formed, as the program's own Formed asks: the same. -/
import Derived.Test.YtfapkepfngddlaaGreatOrWait
import Derived.Test.YtfapkepfngddlaaGreatZNm
import Derived.Test.YtfapkepfngddlaaGreatVcAll
import Derived.Test.YtfapkepfngddlaaGreatRefSs
import Derived.Test.YtfapkepfngddlaaGreatRefTxB
set_option maxRecDepth 100000
set_option maxHeartbeats 64000000
namespace Go.Proofs.YtfapkepfngddlaaGreat.Plain
open Nm.Plain (fits)
set_option linter.unusedVariables false
structure PMsg where
 kind : Int
 ticket : Int
 whole : Bool
 vec : Ints
 from_ : Ints
 zone : List Txt
 want : List Txt
 items : List PItem
 txns : List PTxn
theorem pmsg_ext {a b : PMsg} (h1 : a.kind = b.kind) (h2 : a.ticket = b.ticket) (h3 : a.whole = b.whole) (h4 : a.vec = b.vec) (h5 : a.from_ = b.from_) (h6 : a.zone = b.zone) (h7 : a.want = b.want) (h8 : a.items = b.items) (h9 : a.txns = b.txns) : a = b := by
 cases a; cases b; simp_all
theorem pmsg_dec {a b : PMsg} : a = b ↔ a.kind = b.kind ∧ a.ticket = b.ticket ∧ a.whole = b.whole ∧ a.vec = b.vec ∧ a.from_ = b.from_ ∧ a.zone = b.zone ∧ a.want = b.want ∧ a.items = b.items ∧ a.txns = b.txns :=
 ⟨fun e => by subst e; exact ⟨rfl, rfl, rfl, rfl, rfl, rfl, rfl, rfl, rfl⟩, fun ⟨h1, h2, h3, h4, h5, h6, h7, h8, h9⟩ => pmsg_ext h1 h2 h3 h4 h5 h6 h7 h8 h9⟩
instance : DecidableEq PMsg := fun a b => decidable_of_iff _ pmsg_dec.symm
def noMsg : PMsg := ⟨0, 0, false, [], [], [], [], [], []⟩
instance : Inhabited PMsg := ⟨noMsg⟩
def mayV (v : Ints) : Bool := decide (v.length ≤ 8) && (decide (trim v = v) && v.all fun n => decide (n ≤ 1073741824))
def zoneB (z : List Txt) : Bool := decide (normE z = 0) && decide (least z = z)
def usesB (m : PMsg) : Bool :=
 if m.kind = 1 ∨ m.kind = 6 then decide (m.ticket = 0) && (!m.whole && (m.vec.isEmpty && (m.from_.isEmpty && (m.zone.isEmpty && (m.want.isEmpty && m.items.isEmpty)))))
 else if m.kind = 2 then m.from_.isEmpty && (m.items.isEmpty && m.txns.isEmpty)
 else if m.kind = 3 then !m.whole && (m.from_.isEmpty && (m.zone.isEmpty && m.txns.isEmpty))
 else if m.kind = 4 then !m.whole && (m.zone.isEmpty && m.items.isEmpty)
 else if m.kind = 5 then decide (m.ticket = 0) && (!m.whole && (m.from_.isEmpty && (m.zone.isEmpty && (m.want.isEmpty && (m.items.isEmpty && m.txns.isEmpty)))))
 else false
def mayI (m : PMsg) (x : PItem) : Bool := formedB x && (covers m.want x.key && decide (x.dot.seq ≤ saysI m.vec x.dot.node))
def deltaB (m : PMsg) : Bool := m.txns.all (fun t => decide (tonly t m.want = t)) && (oChain m.from_ m.txns && decide (oEnd m.from_ m.txns = m.vec))
def mformedM (m : PMsg) : Bool :=
 usesB m && (decide (0 ≤ m.ticket) && (decide (m.ticket ≤ 1073741824) && (mayV m.vec && (mayV m.from_ && (zoneB m.zone && (zoneB m.want && (decide (m.items.length ≤ 32768) && (decide (m.txns.length ≤ 4096) &&
  (m.items.all (mayI m) && (decide (inorm m.items = m.items) && (m.txns.all tformedB && (!decide (m.kind = 4) || deltaB m))))))))))))
structure MFormed (m : PMsg) : Prop where
 uses : usesB m = true
 t0 : 0 ≤ m.ticket
 t1 : m.ticket ≤ 1073741824
 vec : mayV m.vec = true
 from_ : mayV m.from_ = true
 zone : zoneB m.zone = true
 want : zoneB m.want = true
 ilen : m.items.length ≤ 32768
 tlen : m.txns.length ≤ 4096
 items : ∀ x ∈ m.items, mayI m x = true
 norm : inorm m.items = m.items
 txns : ∀ t ∈ m.txns, tformedB t = true
 delta : m.kind = 4 → deltaB m = true
theorem mformedM_iff {m : PMsg} : mformedM m = true ↔ MFormed m := by
 unfold mformedM;simp only [Bool.and_eq_true, decide_eq_true_iff, List.all_eq_true, Bool.or_eq_true, Bool.not_eq_true', decide_eq_false_iff_not]
 constructor
 ·rintro ⟨h1, h2, h3, h4, h5, h6, h7, h8, h9, h10, h11, h12, h13⟩
  exact ⟨h1, h2, h3, h4, h5, h6, h7, h8, h9, h10, h11, h12, fun k => h13.resolve_left fun n => n k⟩
 ·intro h
  refine ⟨h.uses, h.t0, h.t1, h.vec, h.from_, h.zone, h.want, h.ilen, h.tlen, h.items, h.norm, h.txns, ?_⟩
  by_cases k : m.kind = 4
  ·exact .inr (h.delta k)
  ·exact .inl k
theorem mayV_parts {v : Ints} (h : mayV v = true) : v.length ≤ 8 ∧ trim v = v ∧ ∀ n ∈ v, 0 ≤ n ∧ n ≤ 1073741824 := by
 unfold mayV at h;rw [Bool.and_eq_true, Bool.and_eq_true, decide_eq_true_iff, decide_eq_true_iff, List.all_eq_true] at h;exact ⟨h.1, h.2.1, fun n hn => ⟨trim_pos h.2.1 n hn, of_decide_eq_true (h.2.2 n hn)⟩⟩
theorem zoneB_parts {z : List Txt} (h : zoneB z = true) : z.length ≤ 8 ∧ ∀ s ∈ z, s.length ≤ 16 := by
 unfold zoneB normE at h;rw [Bool.and_eq_true, decide_eq_true_iff, decide_eq_true_iff] at h;obtain ⟨h1, h2⟩ := h
 by_cases hp : z.all prefixB = true
 ·rw [if_pos hp] at h1
  by_cases h8 : 8 < (least z).length
  ·rw [if_pos h8] at h1; cases h1
  ·rw [h2] at h8
   refine ⟨by omega, fun s hs => key_len (List.all_eq_true.1 hp s hs)⟩
 ·rw [if_neg hp] at h1; cases h1
theorem msg_kind {m : PMsg} (h : usesB m = true) : 1 ≤ m.kind ∧ m.kind ≤ 6 := by
 unfold usesB at h
 split at h
 ·omega
 ·split at h
  ·omega
  ·split at h
   ·omega
   ·split at h
    ·omega
    ·split at h
     ·omega
     ·cases h
def wholeC : Codec Bool := (numI.test (fun n => decide (n = 0) || decide (n = 1)) 2 (by decide)).emb (fun n => decide (n = 1)) (fun b => if b then 1 else 0) fun a h => by
 have := h.2;simp only [Bool.or_eq_true, decide_eq_true_iff] at this
 rcases this with rfl | rfl
 ·rfl
 ·rfl
def itemC : Codec PItem := (textC.seq (textC.seq (numI.seq (textC.seq (intC.seq dotC))))).emb (fun p => ⟨p.1, p.2.1, p.2.2.1, p.2.2.2.1, p.2.2.2.2.1, p.2.2.2.2.2⟩) (fun x => (x.key, x.field, x.kind, x.elem, x.n, x.dot)) fun _ _ => rfl
def vecC : Codec Ints := numI.list 8 2 (by decide) (by decide)
def zoneC : Codec (List Txt) := textC.list 8 2 (by decide) (by decide)
def msgC0 : Codec PMsg := (numI.seq (numI.seq (wholeC.seq (vecC.seq (vecC.seq (zoneC.seq (zoneC.seq ((itemC.list 32768 2 (by decide) (by decide)).seq (txnC.list 4096 2 (by decide) (by decide)))))))))).emb
 (fun p => ⟨p.1, p.2.1, p.2.2.1, p.2.2.2.1, p.2.2.2.2.1, p.2.2.2.2.2.1, p.2.2.2.2.2.2.1, p.2.2.2.2.2.2.2.1, p.2.2.2.2.2.2.2.2⟩) (fun m => (m.kind, m.ticket, m.whole, m.vec, m.from_, m.zone, m.want, m.items, m.txns)) fun _ _ => rfl
def msgC : Codec PMsg := msgC0.test mformedM 2 (by decide)
def mfits (m : PMsg) : Prop := (∀ x ∈ m.items, fits x.n) ∧ ∀ t ∈ m.txns, ∀ e ∈ t.effs, fits e.n
theorem item_parts {x : PItem} (h : formedB x = true) : dotB x.dot = true ∧ x.key.length ≤ 16 ∧ x.field.length ≤ 16 ∧ x.elem.length ≤ 32 ∧ 1 ≤ x.kind ∧ x.kind ≤ 3 := by
 obtain ⟨g1, g2, g3, g4, g5⟩ := formed_parts.1 h;have hk : 1 ≤ x.kind ∧ x.kind ≤ 3 := by
  unfold valueB at g5;simp only [Bool.or_eq_true, Bool.and_eq_true, decide_eq_true_iff] at g5
  omega
 exact ⟨g1, key_len (key_pre g2), key_len g3, g4, hk.1, hk.2⟩
theorem itemC_ok {x : PItem} (h : formedB x = true) (hn : fits x.n) : itemC.ok x := by
 obtain ⟨h1, h2, h3, h4, h5, h6⟩ := item_parts h;refine ⟨⟨?_, ?_, numI_ok.2 (by show 0 ≤ x.kind ∧ x.kind < _; omega), ?_, hn, dotC_ok h1⟩, rfl⟩
 ·show x.key.length ≤ 65536; omega
 ·show x.field.length ≤ 65536; omega
 ·show x.elem.length ≤ 65536; omega
theorem mayI_parts {m : PMsg} {x : PItem} (h : mayI m x = true) : formedB x = true ∧ covers m.want x.key = true ∧ x.dot.seq ≤ saysI m.vec x.dot.node := by
 unfold mayI at h;rw [Bool.and_eq_true, Bool.and_eq_true, decide_eq_true_iff] at h;exact h
theorem vecC_ok {v : Ints} (h : mayV v = true) : vecC.ok v := by
 obtain ⟨h1, h2, h3⟩ := mayV_parts h;exact ⟨h1, fun n hn => numI_ok.2 (by have := h3 n hn; omega)⟩
theorem zoneC_ok {z : List Txt} (h : zoneB z = true) : zoneC.ok z := by
 obtain ⟨h1, h2⟩ := zoneB_parts h;exact ⟨h1, fun s hs => by have := h2 s hs; show s.length ≤ 65536; omega⟩
theorem wholeC_ok (b : Bool) : wholeC.ok b := by
 cases b
 ·exact ⟨⟨numI_ok.2 (by show (0 : Int) ≤ 0 ∧ (0 : Int) < _; omega), rfl⟩, rfl⟩
 ·exact ⟨⟨numI_ok.2 (by show (0 : Int) ≤ 1 ∧ (1 : Int) < _; omega), rfl⟩, rfl⟩
theorem msgC_ok {m : PMsg} (h : mformedM m = true) (hn : mfits m) : msgC.ok m := by
 have f := mformedM_iff.1 h;have hk := msg_kind f.uses;exact ⟨⟨⟨numI_ok.2 (by show 0 ≤ m.kind ∧ m.kind < _; omega), numI_ok.2 (by show 0 ≤ m.ticket ∧ m.ticket < _; have := f.t0; have := f.t1; omega), wholeC_ok _, vecC_ok f.vec, vecC_ok f.from_, zoneC_ok f.zone, zoneC_ok f.want,
  ⟨f.ilen, fun x hx => itemC_ok (mayI_parts (f.items x hx)).1 (hn.1 x hx)⟩, ⟨f.tlen, fun t ht => txnC_ok (f.txns t ht) (hn.2 t ht)⟩⟩, rfl⟩, h⟩
def mread (b : Bytes) : Option PMsg := match msgC.get b with
 | .ok m [] => some m
 | _ => none
theorem mread_put {m : PMsg} (h : mformedM m = true) (hn : mfits m) : mread (msgC.put m) = some m := by
 have := msgC.fwd m [] (msgC_ok h hn);rw [List.append_nil] at this;unfold mread;rw [this]
theorem mread_is {b : Bytes} {m : PMsg} (h : mread b = some m) : mformedM m = true ∧ msgC.put m = b ∧ msgC.ok m := by
 unfold mread at h
 split at h
 ·rename_i x e
  obtain rfl := Option.some.inj h;obtain ⟨o, e2⟩ := msgC.bwd e;rw [List.append_nil] at e2;exact ⟨o.2, e2, o⟩
 ·cases h
theorem mread_more {b : Bytes} {m : PMsg} (h : mread b = some m) (c : BitVec 8) : mread (b ++ [c]) = none := by
 obtain ⟨-, rfl, o⟩ := mread_is h;unfold mread;rw [msgC.fwd m [c] o]
theorem mread_less {b : Bytes} {m : PMsg} (h : mread b = some m) {n : Nat} (hn : n < b.length) : mread (b.take n) = none := by
 obtain ⟨-, rfl, o⟩ := mread_is h;unfold mread;rw [msgC.cut m n o hn]
theorem item_len {x : PItem} (h : formedB x = true) : (itemC.put x).length ≤ 144 := by
 obtain ⟨h1, h2, h3, h4, h5, h6⟩ := item_parts h
 show (textC.put x.key ++ (textC.put x.field ++ (numI.put x.kind ++ (textC.put x.elem ++ (iform x.n ++ dotC.put x.dot))))).length ≤ _
 simp only [List.length_append]
 have a1 := text_len h2 (by omega);have a2 := text_len h3 (by omega);have a3 := numI_len (m := x.kind) (by omega);have a4 := text_len h4 (by omega);have a5 := iform_len x.n;have a6 := dotC_len h1;omega
end Go.Proofs.YtfapkepfngddlaaGreat.Plain
namespace Go.Proofs.YtfapkepfngddlaaGreat
open Go.RowKit Plain
set_option linter.unusedVariables false
theorem mayV_big {xs : Ints} {k : Nat} (hk : k < xs.length) (h : 1073741824 < xs.getD k 0) : mayV xs = false := by
 cases e : mayV xs with
 | false => rfl
 | true =>
  have := (mayV_parts e).2.2 (xs.getD k 0) (by rw [List.getD_eq_getElem?_getD, List.getElem?_eq_getElem hk]; exact List.getElem_mem hk);omega
theorem mayV_low {xs : Ints} (h : ∀ j, j < xs.length → ¬ 1073741824 < xs.getD j 0) : mayV xs = (decide (xs.length ≤ 8) && decide (xs = trim xs)) := by
 have : (xs.all fun n => decide (n ≤ 1073741824)) = true := by
  rw [List.all_eq_true];intro n hn;obtain ⟨j, hj, rfl⟩ := List.getElem_of_mem hn;have := h j hj;rw [List.getD_eq_getElem?_getD, List.getElem?_eq_getElem hj] at this;exact decide_eq_true (by simpa using this)
 unfold mayV;rw [this, Bool.and_true, decide_eq_decide.2 (⟨Eq.symm, Eq.symm⟩ : trim xs = xs ↔ xs = trim xs)]
theorem mmayR {v : Value} {xs : Ints} {w : World} (hv : SeqI w v xs) (hl : xs.length ≤ 1000000) (r : Bool) (hr : mayV xs = r) : Calls Tryz.prog 31 #[v] w (GivesB w r) := by
 obtain ⟨a, cap, rfl, g1, g2, g0, h⟩ := hv.parts;have HS := zH h;have HB := zH (fun k hk hb => hr.symm.trans (mayV_big (xs := xs) (k := k) hk hb));have HL := zH (fun hj => hr.symm.trans (mayV_low (xs := xs) hj));have KT := zH (fun q => vc_rtrim_any (h.below (below_drewN (Below.refl _ _) q)) hl);have hm : maxLen = 9223372036854775807 := rfl;rw [hm] at g2;have HN : Hid (∀ k, k < xs.length → ∃ b o, a = some ⟨b, o, none⟩ ∧ w.cell? ⟨b, o + k, none⟩ = some (.int .i64 (xs.getD k 0))) := zH (fun k hk => by
  obtain ⟨b, o, c, hv, -, -, -, hc⟩ := HS.out.spot (by omega);simp only [Value.slice.injEq] at hv
  exact ⟨b, o, hv.1, hc k hk⟩)
 clear hv h g0 hm hr;generalize hn : xs.length = n at *;go_enter Tryz.func31, Tryz.ntmps31
 go_wp2_with fail
 go_loopw [3] (fun i wr => ∃ k : Nat, k ≤ n ∧ i = .int .i64 k ∧ Aside (∀ j, j < k → ¬ 1073741824 < xs.getD j 0) ∧ ∃ q, wr = w.drewN q) (fun i _ => n - (intOf i).toNat)
 case atStart => exact ⟨0, Nat.zero_le _, rfl, fun j hj => absurd hj (by omega), 0, rfl⟩
 case round =>
  obtain ⟨k, hk, rfl, HA, q, rfl⟩ := hrel
  by_cases hlt : k < n
  ·obtain ⟨b, o, rfl, c1⟩ := HN.out k hlt
   by_cases hx : 1073741824 < xs.getD k 0
   ·obtain rfl : r = false := HB.out k hlt hx
    generalize xs.getD k 0 = x at *;go_wp2_with fail
    go_ret
    exact ⟨rfl, below_drewN (Below.refl _ _) q⟩
   ·have HA2 : Hid (∀ j, j < k + 1 → ¬ 1073741824 < xs.getD j 0) := zH (fun j hj => by
     by_cases h : j < k
     ·exact HA.out j h
     ·obtain rfl : j = k := by omega
      exact hx)
    generalize xs.getD k 0 = x at *;go_wp2_with fail
    go_roundw
    case rel => exact ⟨k + 1, by omega, by go_num, HA2.out, q, rfl⟩
    case measure => simp [intOf]; omega
  ·obtain rfl : k = n := by omega
   have HR := zH (HL.out (fun j hj => by have := HA.out j hj; omega));clear HA HB HL hlt;have KT1 := KT.out q
   by_cases h8 : k ≤ 8
   ·have i8 : (k : Int) ≤ 8 := by omega
    have HR2 : Hid (r = decide (xs = trim xs)) := zH (by rw [HR.out, decide_eq_true h8, Bool.true_and]);clear h8 HR;go_wp2_with fail
    refine KT1.mono ?_;rintro e w2 ⟨u, rfl, ho, hb⟩;obtain ⟨ua, uc, rfl, -, -, -, hu⟩ := ho.seq.parts;have B2 := zH ((below_drewN (Below.refl w.heap.size w) q).trans (hb.mono (below_drewN (Below.refl w.heap.size w) q).size));have KQ := vc_requal_any (HS.out.below B2.out) hu;rw [← HR2.out] at KQ;clear KT1 ho hb hu;go_wp2_with fail
    refine KQ.mono ?_;rintro e w3 ⟨rfl, q3, rfl⟩;go_wp2_with fail
    go_ret
    exact ⟨rfl, below_drewN B2.out q3⟩
   ·have i8 : ¬ (k : Int) ≤ 8 := by omega
    obtain rfl : r = false := by rw [HR.out, decide_eq_false h8, Bool.false_and]
    clear h8 HR KT1;go_wp2_with fail
    go_ret
    exact ⟨rfl, below_drewN (Below.refl _ _) q⟩
theorem mrightR {v : Value} {xs : List Txt} {w : World} (hv : SeqT w v xs) (hf : FitT xs) (hl : xs.length ≤ 1000000) (r : Bool) (hr : zoneB xs = r) : Calls Tryz.prog 32 #[v] w (GivesB w r) := by
 obtain ⟨a, cap, rfl, -, -, -, h⟩ := hv.parts;have HS := zH h;have K := rnorm_any h hf hl;have HR : Hid (r = (decide (normE xs = 0) && decide (normV xs = xs))) := zH (by
  rw [← hr];unfold zoneB
  by_cases e : normE xs = 0
  ·unfold normV; rw [if_pos e]
  ·rw [decide_eq_false e, Bool.false_and, Bool.false_and])
 clear hv h hr hf hl;generalize xs.length = n at *;generalize hE : normE xs = E at *;generalize hV : normV xs = V at *;clear hE hV;go_enter Tryz.func32, Tryz.ntmps32
 go_wp2_with fail
 refine K.mono ?_;rintro e w2 ⟨u, rfl, ho, hb⟩;obtain ⟨ua, uc, rfl, -, -, -, hu⟩ := ho.seq.parts;have B2 := zH hb;have KQ := zH (rsameTR hu (HS.out.below hb) rfl);clear K ho hb hu;generalize V.length = m at *
 by_cases h0 : E = 0
 ·have i0 : ((E : Int) == 0) = true := by simp [h0]
  rw [decide_eq_true h0, Bool.true_and] at HR;have KQ1 := KQ.out;rw [← HR.out] at KQ1;clear h0 KQ;go_wp2_with fail
  refine KQ1.mono ?_;rintro e w3 ⟨rfl, hb⟩;have B3 := zH (B2.out.trans (hb.mono B2.out.size));clear hb KQ1;go_wp2_with fail
  go_ret
  exact ⟨rfl, B3.out⟩
 ·have i0 : ((E : Int) == 0) = false := by simp; omega
  rw [decide_eq_false h0, Bool.false_and] at HR;obtain rfl := HR.out;clear h0 KQ;go_wp2_with fail
  go_ret
  exact ⟨rfl, B2.out⟩
end Go.Proofs.YtfapkepfngddlaaGreat
namespace Go.Proofs.YtfapkepfngddlaaGreat.Plain
set_option linter.unusedVariables false
def emptyB (m : PMsg) : Bool := decide (m.ticket = 0) && (!m.whole && (m.vec.isEmpty && (m.from_.isEmpty && (m.zone.isEmpty && (m.want.isEmpty && (m.items.isEmpty && m.txns.isEmpty))))))
def clearM (m : PMsg) : PMsg :=
 if m.kind = 1 ∨ m.kind = 6 then { m with txns := [] }
 else if m.kind = 5 then { m with vec := [] }
 else if m.kind = 2 then { m with ticket := 0, whole := false, vec := [], zone := [], want := [] }
 else if m.kind = 3 then { m with ticket := 0, vec := [], want := [], items := [] }
 else { m with ticket := 0, from_ := [], vec := [], want := [], txns := [] }
theorem uses_is {m : PMsg} (hk : 1 ≤ m.kind ∧ m.kind ≤ 6) : usesB m = emptyB (clearM m) := by
 have : m.kind = 1 ∨ m.kind = 2 ∨ m.kind = 3 ∨ m.kind = 4 ∨ m.kind = 5 ∨ m.kind = 6 := by omega
 rcases this with e | e | e | e | e | e <;> simp [usesB, clearM, emptyB, e]
theorem uses_not {m : PMsg} (hk : ¬ (1 ≤ m.kind ∧ m.kind ≤ 6)) : usesB m = false := by
 cases e : usesB m with
 | false => rfl
 | true => exact absurd (msg_kind e) hk
def wrongI (m : PMsg) (x : PItem) : Bool := !formedB x || (!covers m.want x.key || !(decide (1 ≤ x.dot.seq) && decide (x.dot.seq ≤ saysI m.vec x.dot.node)))
theorem wrong_is (m : PMsg) (x : PItem) : wrongI m x = !mayI m x := by
 unfold wrongI mayI
 cases h : formedB x with
 | false => rfl
 | true =>
  have hd := (item_parts h).1;unfold dotB at hd;rw [decide_eq_true_iff] at hd;rw [decide_eq_true (show 1 ≤ x.dot.seq by omega)]
  cases covers m.want x.key <;> simp
def itemsB (m : PMsg) : Bool := decide (m.items.length ≤ 32768) && (!m.items.any (wrongI m) && decide (m.items = inorm m.items))
def txnsB (l : List PTxn) : Bool := decide (l.length ≤ 4096) && !l.any (fun t => !tformedB t)
def beyondB (z : List Txt) (t : PTxn) : Bool := t.effs.any fun e => !covers z e.key
def leadB (m : PMsg) : Bool := m.txns.all (fun t => !beyondB m.want t) && (oChain m.from_ m.txns && decide (m.vec = oEnd m.from_ m.txns))
theorem tonly_is (t : PTxn) (z : List Txt) : decide (tonly t z = t) = !beyondB z t := by
 have h : tonly t z = t ↔ ∀ e ∈ t.effs, covers z e.key = true := by
  unfold tonly
  constructor
  ·intro h
   have : eonly t.effs z = t.effs := by
    have := congrArg PTxn.effs h;exact this
   exact List.filter_eq_self.1 this
  ·intro h
   have : eonly t.effs z = t.effs := List.filter_eq_self.2 h;rw [this]
 unfold beyondB
 cases e : t.effs.any (fun e => !covers z e.key) with
 | false =>
  rw [List.any_eq_false] at e;refine decide_eq_true (h.2 fun x hx => ?_);have := e x hx
  simpa using this
 | true =>
  rw [List.any_eq_true] at e;obtain ⟨x, hx, he⟩ := e;refine decide_eq_false fun g => ?_
  rw [h.1 g x hx] at he
  cases he
theorem lead_is (m : PMsg) : leadB m = deltaB m := by
 unfold leadB deltaB
 congr 1
 ·congr 1
  funext t
  exact (tonly_is t m.want).symm
 ·congr 1
  exact decide_eq_decide.2 ⟨fun h => h.symm, fun h => h.symm⟩
theorem items_is (m : PMsg) : itemsB m = (decide (m.items.length ≤ 32768) && (m.items.all (mayI m) && decide (inorm m.items = m.items))) := by
 unfold itemsB
 congr 1
 congr 1
 ·rw [List.not_any_eq_all_not]
  congr 1
  funext x
  rw [wrong_is, Bool.not_not]
 ·exact decide_eq_decide.2 ⟨fun h => h.symm, fun h => h.symm⟩
theorem txns_is (l : List PTxn) : txnsB l = (decide (l.length ≤ 4096) && l.all tformedB) := by
 unfold txnsB
 congr 1
 rw [List.not_any_eq_all_not]
 congr 1
 funext x
 rw [Bool.not_not]
def isVecB (v : Ints) : Bool := decide (v.length ≤ 8) && (decide (v = trim v) && !v.any (fun n => decide (n > 1073741824)))
theorem isVec_is (v : Ints) : isVecB v = mayV v := by
 unfold isVecB mayV
 congr 1
 congr 1
 ·exact decide_eq_decide.2 ⟨fun h => h.symm, fun h => h.symm⟩
 ·rw [List.not_any_eq_all_not]
  congr 1
  funext n
  by_cases h : n > 1073741824
  ·rw [decide_eq_true h, decide_eq_false (show ¬ n ≤ 1073741824 by omega)]; rfl
  ·rw [decide_eq_false h, decide_eq_true (show n ≤ 1073741824 by omega)]; rfl
structure PrgR (m : PMsg) (r : Bool) : Prop where
 uses : usesB m = false → r = false
 t0 : ¬ 0 ≤ m.ticket → r = false
 t1 : ¬ m.ticket ≤ 1073741824 → r = false
 vec : mayV m.vec = false → r = false
 from_ : mayV m.from_ = false → r = false
 zone : zoneB m.zone = false → r = false
 want : zoneB m.want = false → r = false
 items : itemsB m = false → r = false
 txns : txnsB m.txns = false → r = false
 last : usesB m = true → 0 ≤ m.ticket → m.ticket ≤ 1073741824 → mayV m.vec = true → mayV m.from_ = true → zoneB m.zone = true → zoneB m.want = true → itemsB m = true → txnsB m.txns = true → r = (!decide (m.kind = 4) || leadB m)
theorem prgR {m : PMsg} {r : Bool} (hr : mformedM m = r) : PrgR m r := by
 have e : mformedM m = (usesB m && (decide (0 ≤ m.ticket) && (decide (m.ticket ≤ 1073741824) && (mayV m.vec && (mayV m.from_ && (zoneB m.zone && (zoneB m.want && (itemsB m && (txnsB m.txns && (!decide (m.kind = 4) || leadB m)))))))))) := by
  rw [items_is, txns_is, lead_is];unfold mformedM;generalize usesB m = a1;generalize decide (0 ≤ m.ticket) = a2;generalize decide (m.ticket ≤ 1073741824) = a3;generalize mayV m.vec = a4;generalize mayV m.from_ = a5;generalize zoneB m.zone = a6;generalize zoneB m.want = a7;generalize decide (m.items.length ≤ 32768) = a8;generalize decide (m.txns.length ≤ 4096) = a9;generalize m.items.all (mayI m) = b1;generalize decide (inorm m.items = m.items) = b2;generalize m.txns.all tformedB = b3;generalize (!decide (m.kind = 4) || deltaB m) = b4
  cases a8 <;> cases a9 <;> simp [Bool.and_assoc]
 rw [hr] at e;subst e;refine ⟨?_, ?_, ?_, ?_, ?_, ?_, ?_, ?_, ?_, ?_⟩
 ·intro h; rw [h]; rfl
 ·intro h; rw [decide_eq_false h]; simp
 ·intro h; rw [decide_eq_false h]; simp
 ·intro h; rw [h]; simp
 ·intro h; rw [h]; simp
 ·intro h; rw [h]; simp
 ·intro h; rw [h]; simp
 ·intro h; rw [h]; simp
 ·intro h; rw [h]; simp
 ·intro h1 h2 h3 h4 h5 h6 h7 h8 h9
  rw [h1, h4, h5, h6, h7, h8, h9, decide_eq_true h2, decide_eq_true h3];simp
end Go.Proofs.YtfapkepfngddlaaGreat.Plain
namespace Go.Proofs.YtfapkepfngddlaaGreat
open Go.RowKit Plain
set_option linter.unusedVariables false
theorem rmnum {B : Nat} {v : Value} {xs : Bytes} {w : World} {n : Int} (hv : By.Owns B w v xs) (hB : B ≤ w.heap.size) (hn : 0 ≤ n ∧ n < 72057594037927936) (hx : xs.length ≤ 900000) : Calls Tryz.prog 46 #[v, .int .i64 n] w (GivesO B w v (xs ++ pnums [n])) := by
 have K := zH (show Calls Tryz.prog 94 #[.int .i64 n] w (By.MadeT w (pnums [n])) from by rw [pnum_one]; obtain ⟨m, rfl⟩ : ∃ m : Nat, n = (m : Int) := ⟨n.toNat, by omega⟩; exact By.refNum_ok m (by omega) w);have FL : (pnums [n]).length ≤ 8 := by rw [pnum_one]; exact form_len8 _ (by omega)
 have O0 := zH hv;obtain ⟨a, c, rfl, -, -, -, -⟩ := hv.parts;clear hv;generalize pnums [n] = fm at *;generalize hxl : xs.length = xl at *;have XL := zH hxl;clear hxl;go_enter Tryz.func46, Tryz.ntmps46
 go_wp2_with fail
 refine K.out.mono ?_;rintro e w2 ⟨v2, rfl, ho2, hb2⟩;have O2 := zH (O0.out.below hb2 (Nat.le_refl _));have G2 := zH ((Grow.refl B w (.slice a xl c)).keep hb2 hB);have S2 := zH ho2.seq;obtain ⟨a2, c2, rfl, -, -, -, -⟩ := ho2.parts;clear ho2 hb2 K;generalize hfe : fm.length = fl at *;have FE := zH hfe;have FL2 := zH FL;clear hfe FL;go_wp2_with (at_builtin; refine By.wpList_append_seq rfl (.tmp 12) (.tmp 13) rfl B rfl O2.out rfl S2.out (by rw [XL.out, FE.out]; have := FL2.out; omega) (by have := G2.out.size; omega) ?_)
 intro v5 w5 ho5 hgr hat;have O5 := zH ho5;have G5 := zH (G2.out.app hgr hat (fun k hk => (O2.out.lt k hk).1) hB);clear ho5 hgr hat;go_wp2_with fail
 go_ret
 exact ⟨_, rfl, O5.out, G5.out⟩
theorem rmtext {B : Nat} {v : Value} {xs : Bytes} {w : World} {s : Txt} (hv : By.Owns B w v xs) (hB : B ≤ w.heap.size) (hn : s.length ≤ 1000) (hx : xs.length ≤ 900000) : Calls Tryz.prog 47 #[v, .string (bt s)] w (GivesO B w v (xs ++ ptexts [s])) := by
 have K := zH (show Calls Tryz.prog 95 #[.string (bt s)] w (By.MadeT w (ptexts [s])) from by rw [ptext_one, ← tform_bt]; exact By.refText_ok (bt s) w (show (bt s).size ≤ 65536 by rw [bt_size]; omega));have FL : (ptexts [s]).length ≤ 1008 := by rw [ptext_one, List.length_append, tbs_len]; have := form_len8 s.length (by omega); omega
 have O0 := zH hv;obtain ⟨a, c, rfl, -, -, -, -⟩ := hv.parts;clear hv;generalize ptexts [s] = fm at *;generalize hxl : xs.length = xl at *;have XL := zH hxl;clear hxl;go_enter Tryz.func47, Tryz.ntmps47
 go_wp2_with fail
 refine K.out.mono ?_;rintro e w2 ⟨v2, rfl, ho2, hb2⟩;have O2 := zH (O0.out.below hb2 (Nat.le_refl _));have G2 := zH ((Grow.refl B w (.slice a xl c)).keep hb2 hB);have S2 := zH ho2.seq;obtain ⟨a2, c2, rfl, -, -, -, -⟩ := ho2.parts;clear ho2 hb2 K;generalize hfe : fm.length = fl at *;have FE := zH hfe;have FL2 := zH FL;clear hfe FL;go_wp2_with (at_builtin; refine By.wpList_append_seq rfl (.tmp 12) (.tmp 13) rfl B rfl O2.out rfl S2.out (by rw [XL.out, FE.out]; have := FL2.out; omega) (by have := G2.out.size; omega) ?_)
 intro v5 w5 ho5 hgr hat;have O5 := zH ho5;have G5 := zH (G2.out.app hgr hat (fun k hk => (O2.out.lt k hk).1) hB);clear ho5 hgr hat;go_wp2_with fail
 go_ret
 exact ⟨_, rfl, O5.out, G5.out⟩
theorem rmnums {B : Nat} {v l : Value} {xs : Bytes} {ns : List Int} {w : World} (hv : By.Owns B w v xs) (hB : B ≤ w.heap.size) (hl : ∀ W u, Grow B w v W u → SeqI W l ns) (hn : ∀ n ∈ ns, 0 ≤ n ∧ n < 72057594037927936) (hx : xs.length + 8 + 8 * ns.length ≤ 900000) (hc : ns.length ≤ 100000) :
  Calls Tryz.prog 45 #[v, l] w (GivesO B w v (xs ++ pnums [(ns.length : Int)] ++ pnums ns)) := by
 have HL := zH hl;obtain ⟨la, lc, rfl, k1, k2, -, -⟩ := (hl w v (Grow.refl _ _ _)).parts;have PS0 := zH (fun k (hk : k < ns.length) => flatMap_take (fun n : Int => form n.toNat) ns (k := k) hk);obtain ⟨P, hP⟩ : ∃ P : Nat → Bytes, P = fun k => pnums (ns.take k) := ⟨_, rfl⟩
 have PS : Hid (∀ k, k < ns.length → P (k + 1) = P k ++ pnums [ns.getD k default]) := zH (fun k hk => by rw [hP, pnum_one]; exact PS0.out k hk);have P0 : Hid (P 0 = []) := zH (by rw [hP]; rfl);have PN : Hid (P ns.length = pnums ns) := zH (by rw [hP]; show pnums (ns.take ns.length) = _; rw [List.take_length]);have PL : Hid (∀ k, (P k).length ≤ 8 * ns.length) := zH (fun k => by
  rw [hP];exact Nat.le_trans (pnums_len (ns := ns.take k) (fun n h => hn n (List.mem_of_mem_take h))) (Nat.mul_le_mul_left _ (by rw [List.length_take]; omega)))
 have HM := zH (fun k (hk : k < ns.length) => hn _ (tmem_getD (l := ns) hk));have HO0 := zH hv;rw [← PN.out];clear hP PS0 PN hn hl;obtain ⟨va, vc, rfl, -, -, -, -⟩ := hv.parts;have km : maxLen = 9223372036854775807 := rfl;rw [km] at k2;clear km;obtain ⟨n, hN⟩ : ∃ n, ns.length = n := ⟨_, rfl⟩;rw [hN] at hx k1 PS PL HM hc ⊢;have LN := zH hN;rw [hN] at HL;clear hv hN;generalize hxl : xs.length = xl at *;have XL := zH hxl;clear hxl;have K1 := zH (rmnum HO0.out hB (n := (n : Int)) (by omega) (by rw [XL.out]; omega));go_enter Tryz.func45, Tryz.ntmps45
 go_wp2_with fail
 refine K1.out.mono ?_;rintro e w1 ⟨v1, rfl, ho1, hg1⟩;have O1 := zH ho1;have G1 := zH hg1;have Y1 : Hid ((xs ++ pnums [(n : Int)]).length ≤ xl + 8) := zH (by rw [List.length_append, XL.out]; have := pnums_len (ns := [(n : Int)]) (by intro m hm; simp at hm; omega); simp only [List.length_cons, List.length_nil] at this; omega);obtain ⟨a1, c1, rfl, -, -, -, -⟩ := ho1.parts;clear ho1 hg1 K1;generalize xs ++ pnums [(n : Int)] = Y at *;generalize hyl : Y.length = yl at *;have YL := zH hyl;clear hyl;go_wp2_with fail
 go_loopw [0, 5] (fun z i wr => ∃ k : Nat, k ≤ n ∧ i = .int .i64 k ∧ By.Owns B wr z (Y ++ P k) ∧ Grow B w (.slice va xl vc) wr z) (fun _ i _ => n - (intOf i).toNat)
 case atStart => exact ⟨0, Nat.zero_le _, rfl, by rw [P0.out, List.append_nil]; exact O1.out, G1.out⟩
 case round =>
  obtain ⟨k, hk, rfl, ho, hg⟩ := hrel;have HO := zH ho;have HG := zH hg;clear ho hg
  by_cases hlt : k < n
  ·have PK := zH (PS.out k hlt)
   have LK := zH (PL.out k);have MK := HM.out k hlt;have SL := HL.out _ _ HG.out;obtain ⟨b, o, c, hv, -, -, -, hc0⟩ := SL.spot (by rw [LN.out]; omega);rw [LN.out] at hv;simp only [Value.slice.injEq] at hv
   obtain ⟨rfl, -, rfl⟩ := hv;have c0 := hc0 k (by rw [LN.out]; exact hlt);clear hc0;change _ = some (Value.int .i64 (ns.getD k default)) at c0;generalize ns.getD k default = m at *;clear SL;have KP := zH (rmnum HO.out (by have := HG.out.size; omega) (n := m) MK (by rw [List.length_append, YL.out]; have := LK.out; have := Y1.out; omega));obtain ⟨za, zc, rfl, -, -, -, -⟩ := HO.out.parts;generalize (Y ++ P k).length = zl at *;clear MK;go_wp2_with fail
   refine KP.out.mono ?_;rintro e w2 ⟨v2, rfl, ho2, hg2⟩;have O2 := zH ho2;have G2 := zH (HG.out.trans hg2);obtain ⟨a2, c2, rfl, -, -, -, -⟩ := ho2.parts;clear ho2 hg2 KP c0;generalize (Y ++ P k ++ pnums [m]).length = n7 at *;go_wp2_with fail
   go_roundw
   case rel => exact ⟨k + 1, by omega, by go_num, by rw [PK.out, ← List.append_assoc]; exact O2.out, G2.out⟩
   case measure => simp [intOf] <;> omega
  ·obtain rfl : k = n := by omega
   obtain ⟨za, zc, rfl, -, -, -, -⟩ := HO.out.parts;go_wp2_with fail
   go_ret
   exact ⟨_, rfl, HO.out, HG.out⟩
theorem rmtexts {B : Nat} {v l : Value} {xs : Bytes} {ns : List Txt} {w : World} (hv : By.Owns B w v xs) (hB : B ≤ w.heap.size) (hl : ∀ W u, Grow B w v W u → SeqT W l ns) (hn : ∀ n ∈ ns, n.length ≤ 1000) (hx : xs.length + 8 + 1008 * ns.length ≤ 900000) (hc : ns.length ≤ 100000) :
  Calls Tryz.prog 44 #[v, l] w (GivesO B w v (xs ++ pnums [(ns.length : Int)] ++ ptexts ns)) := by
 have HL := zH hl;obtain ⟨la, lc, rfl, k1, k2, -, -⟩ := (hl w v (Grow.refl _ _ _)).parts;have PS0 := zH (fun k (hk : k < ns.length) => flatMap_take (fun n : Txt => form n.length ++ tbs n) ns (k := k) hk);obtain ⟨P, hP⟩ : ∃ P : Nat → Bytes, P = fun k => ptexts (ns.take k) := ⟨_, rfl⟩
 have PS : Hid (∀ k, k < ns.length → P (k + 1) = P k ++ ptexts [ns.getD k default]) := zH (fun k hk => by rw [hP, ptext_one]; exact PS0.out k hk);have P0 : Hid (P 0 = []) := zH (by rw [hP]; rfl);have PN : Hid (P ns.length = ptexts ns) := zH (by rw [hP]; show ptexts (ns.take ns.length) = _; rw [List.take_length]);have PL : Hid (∀ k, (P k).length ≤ 1008 * ns.length) := zH (fun k => by
  rw [hP];exact Nat.le_trans (ptexts_len (ns := ns.take k) (fun n h => hn n (List.mem_of_mem_take h))) (Nat.mul_le_mul_left _ (by rw [List.length_take]; omega)))
 have HM := zH (fun k (hk : k < ns.length) => hn _ (tmem_getD (l := ns) hk));have HO0 := zH hv;rw [← PN.out];clear hP PS0 PN hn hl;obtain ⟨va, vc, rfl, -, -, -, -⟩ := hv.parts;have km : maxLen = 9223372036854775807 := rfl;rw [km] at k2;clear km;obtain ⟨n, hN⟩ : ∃ n, ns.length = n := ⟨_, rfl⟩;rw [hN] at hx k1 PS PL HM hc ⊢;have LN := zH hN;rw [hN] at HL;clear hv hN;generalize hxl : xs.length = xl at *;have XL := zH hxl;clear hxl;have K1 := zH (rmnum HO0.out hB (n := (n : Int)) (by omega) (by rw [XL.out]; omega));go_enter Tryz.func44, Tryz.ntmps44
 go_wp2_with fail
 refine K1.out.mono ?_;rintro e w1 ⟨v1, rfl, ho1, hg1⟩;have O1 := zH ho1;have G1 := zH hg1;have Y1 : Hid ((xs ++ pnums [(n : Int)]).length ≤ xl + 8) := zH (by rw [List.length_append, XL.out]; have := pnums_len (ns := [(n : Int)]) (by intro m hm; simp at hm; omega); simp only [List.length_cons, List.length_nil] at this; omega);obtain ⟨a1, c1, rfl, -, -, -, -⟩ := ho1.parts;clear ho1 hg1 K1;generalize xs ++ pnums [(n : Int)] = Y at *;generalize hyl : Y.length = yl at *;have YL := zH hyl;clear hyl;go_wp2_with fail
 go_loopw [0, 5] (fun z i wr => ∃ k : Nat, k ≤ n ∧ i = .int .i64 k ∧ By.Owns B wr z (Y ++ P k) ∧ Grow B w (.slice va xl vc) wr z) (fun _ i _ => n - (intOf i).toNat)
 case atStart => exact ⟨0, Nat.zero_le _, rfl, by rw [P0.out, List.append_nil]; exact O1.out, G1.out⟩
 case round =>
  obtain ⟨k, hk, rfl, ho, hg⟩ := hrel;have HO := zH ho;have HG := zH hg;clear ho hg
  by_cases hlt : k < n
  ·have PK := zH (PS.out k hlt)
   have LK := zH (PL.out k);have MK := HM.out k hlt;have SL := HL.out _ _ HG.out;obtain ⟨b, o, c, hv, -, -, -, hc0⟩ := SL.spot (by rw [LN.out]; omega);rw [LN.out] at hv;simp only [Value.slice.injEq] at hv
   obtain ⟨rfl, -, rfl⟩ := hv;have c0 := hc0 k (by rw [LN.out]; exact hlt);clear hc0;change _ = some (Value.string <| bt (ns.getD k default)) at c0;generalize ns.getD k default = m at *;clear SL;have KP := zH (rmtext HO.out (by have := HG.out.size; omega) (s := m) MK (by rw [List.length_append, YL.out]; have := LK.out; have := Y1.out; omega));obtain ⟨za, zc, rfl, -, -, -, -⟩ := HO.out.parts;generalize (Y ++ P k).length = zl at *;clear MK;go_wp2_with fail
   refine KP.out.mono ?_;rintro e w2 ⟨v2, rfl, ho2, hg2⟩;have O2 := zH ho2;have G2 := zH (HG.out.trans hg2);obtain ⟨a2, c2, rfl, -, -, -, -⟩ := ho2.parts;clear ho2 hg2 KP c0;generalize (Y ++ P k ++ ptexts [m]).length = n7 at *;go_wp2_with fail
   go_roundw
   case rel => exact ⟨k + 1, by omega, by go_num, by rw [PK.out, ← List.append_assoc]; exact O2.out, G2.out⟩
   case measure => simp [intOf] <;> omega
  ·obtain rfl : k = n := by omega
   obtain ⟨za, zc, rfl, -, -, -, -⟩ := HO.out.parts;go_wp2_with fail
   go_ret
   exact ⟨_, rfl, HO.out, HG.out⟩
end Go.Proofs.YtfapkepfngddlaaGreat
