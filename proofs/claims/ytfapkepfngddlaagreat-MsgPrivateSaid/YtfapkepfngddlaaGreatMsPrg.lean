/- Messages as plain mathematics: when one is formed, its bytes, how they are read; the laws of P17.3, and what a formed Push or Delta says. When a message is formed, as the program's own Formed asks: the same. -/
import Derived.Test.YtfapkepfngddlaaGreatTxMaths
namespace Go.Proofs.YtfapkepfngddlaaGreat.Plain
open Nm.Plain (fits)
set_option linter.unusedVariables false

structure PMsg where
 kind : Int
 ticket : Int
 whole : Bool
 vec : Ints
 from_ : Ints
 zone : List Txt
 want : List Txt
 items : List PItem
 txns : List PTxn
theorem pmsg_ext {a b : PMsg} (h1 : a.kind = b.kind) (h2 : a.ticket = b.ticket) (h3 : a.whole = b.whole) (h4 : a.vec = b.vec) (h5 : a.from_ = b.from_) (h6 : a.zone = b.zone) (h7 : a.want = b.want) (h8 : a.items = b.items) (h9 : a.txns = b.txns) : a = b := by
 cases a; cases b; simp_all
theorem pmsg_dec {a b : PMsg} : a = b ↔ a.kind = b.kind ∧ a.ticket = b.ticket ∧ a.whole = b.whole ∧ a.vec = b.vec ∧ a.from_ = b.from_ ∧ a.zone = b.zone ∧ a.want = b.want ∧ a.items = b.items ∧ a.txns = b.txns :=
 ⟨fun e => by subst e; exact ⟨rfl, rfl, rfl, rfl, rfl, rfl, rfl, rfl, rfl⟩, fun ⟨h1, h2, h3, h4, h5, h6, h7, h8, h9⟩ => pmsg_ext h1 h2 h3 h4 h5 h6 h7 h8 h9⟩
instance : DecidableEq PMsg := fun a b => decidable_of_iff _ pmsg_dec.symm
def noMsg : PMsg := ⟨0, 0, false, [], [], [], [], [], []⟩
instance : Inhabited PMsg := ⟨noMsg⟩
def mayV (v : Ints) : Bool := decide (v.length ≤ 8) && (decide (trim v = v) && v.all fun n => decide (n ≤ 1073741824))
def zoneB (z : List Txt) : Bool := decide (normE z = 0) && decide (least z = z)
def usesB (m : PMsg) : Bool :=
 if m.kind = 1 ∨ m.kind = 6 then decide (m.ticket = 0) && (!m.whole && (m.vec.isEmpty && (m.from_.isEmpty && (m.zone.isEmpty && (m.want.isEmpty && m.items.isEmpty)))))
 else if m.kind = 2 then m.from_.isEmpty && (m.items.isEmpty && m.txns.isEmpty)
 else if m.kind = 3 then !m.whole && (m.from_.isEmpty && (m.zone.isEmpty && m.txns.isEmpty))
 else if m.kind = 4 then !m.whole && (m.zone.isEmpty && m.items.isEmpty)
 else if m.kind = 5 then decide (m.ticket = 0) && (!m.whole && (m.from_.isEmpty && (m.zone.isEmpty && (m.want.isEmpty && (m.items.isEmpty && m.txns.isEmpty)))))
 else false
def mayI (m : PMsg) (x : PItem) : Bool := formedB x && (covers m.want x.key && decide (x.dot.seq ≤ saysI m.vec x.dot.node))
def deltaB (m : PMsg) : Bool := m.txns.all (fun t => decide (tonly t m.want = t)) && (oChain m.from_ m.txns && decide (oEnd m.from_ m.txns = m.vec))
def mformedM (m : PMsg) : Bool :=
 usesB m && (decide (0 ≤ m.ticket) && (decide (m.ticket ≤ 1073741824) && (mayV m.vec && (mayV m.from_ && (zoneB m.zone && (zoneB m.want && (decide (m.items.length ≤ 32768) && (decide (m.txns.length ≤ 4096) &&
  (m.items.all (mayI m) && (decide (inorm m.items = m.items) && (m.txns.all tformedB && (!decide (m.kind = 4) || deltaB m))))))))))))
structure MFormed (m : PMsg) : Prop where
 uses : usesB m = true
 t0 : 0 ≤ m.ticket
 t1 : m.ticket ≤ 1073741824
 vec : mayV m.vec = true
 from_ : mayV m.from_ = true
 zone : zoneB m.zone = true
 want : zoneB m.want = true
 ilen : m.items.length ≤ 32768
 tlen : m.txns.length ≤ 4096
 items : ∀ x ∈ m.items, mayI m x = true
 norm : inorm m.items = m.items
 txns : ∀ t ∈ m.txns, tformedB t = true
 delta : m.kind = 4 → deltaB m = true
theorem mformedM_iff {m : PMsg} : mformedM m = true ↔ MFormed m := by
 unfold mformedM
 simp only [Bool.and_eq_true, decide_eq_true_iff, List.all_eq_true, Bool.or_eq_true, Bool.not_eq_true', decide_eq_false_iff_not]
 constructor
 ·rintro ⟨h1, h2, h3, h4, h5, h6, h7, h8, h9, h10, h11, h12, h13⟩
  exact ⟨h1, h2, h3, h4, h5, h6, h7, h8, h9, h10, h11, h12, fun k => h13.resolve_left fun n => n k⟩
 ·intro h
  refine ⟨h.uses, h.t0, h.t1, h.vec, h.from_, h.zone, h.want, h.ilen, h.tlen, h.items, h.norm, h.txns, ?_⟩
  by_cases k : m.kind = 4
  ·exact .inr (h.delta k)
  ·exact .inl k
theorem mayV_parts {v : Ints} (h : mayV v = true) : v.length ≤ 8 ∧ trim v = v ∧ ∀ n ∈ v, 0 ≤ n ∧ n ≤ 1073741824 := by
 unfold mayV at h
 rw [Bool.and_eq_true, Bool.and_eq_true, decide_eq_true_iff, decide_eq_true_iff, List.all_eq_true] at h
 exact ⟨h.1, h.2.1, fun n hn => ⟨trim_pos h.2.1 n hn, of_decide_eq_true (h.2.2 n hn)⟩⟩
theorem zoneB_parts {z : List Txt} (h : zoneB z = true) : z.length ≤ 8 ∧ ∀ s ∈ z, s.length ≤ 16 := by
 unfold zoneB normE at h
 rw [Bool.and_eq_true, decide_eq_true_iff, decide_eq_true_iff] at h
 obtain ⟨h1, h2⟩ := h
 by_cases hp : z.all prefixB = true
 ·rw [if_pos hp] at h1
  by_cases h8 : 8 < (least z).length
  ·rw [if_pos h8] at h1; cases h1
  ·rw [h2] at h8
   refine ⟨by omega, fun s hs => key_len (List.all_eq_true.1 hp s hs)⟩
 ·rw [if_neg hp] at h1; cases h1
theorem msg_kind {m : PMsg} (h : usesB m = true) : 1 ≤ m.kind ∧ m.kind ≤ 6 := by
 unfold usesB at h
 split at h
 ·omega
 ·split at h
  ·omega
  ·split at h
   ·omega
   ·split at h
    ·omega
    ·split at h
     ·omega
     ·cases h

def wholeC : Codec Bool := (numI.test (fun n => decide (n = 0) || decide (n = 1)) 2 (by decide)).emb (fun n => decide (n = 1)) (fun b => if b then 1 else 0) fun a h => by
 have := h.2
 simp only [Bool.or_eq_true, decide_eq_true_iff] at this
 rcases this with rfl | rfl
 ·rfl
 ·rfl
def itemC : Codec PItem := (textC.seq (textC.seq (numI.seq (textC.seq (intC.seq dotC))))).emb (fun p => ⟨p.1, p.2.1, p.2.2.1, p.2.2.2.1, p.2.2.2.2.1, p.2.2.2.2.2⟩) (fun x => (x.key, x.field, x.kind, x.elem, x.n, x.dot)) fun _ _ => rfl
def vecC : Codec Ints := numI.list 8 2 (by decide) (by decide)
def zoneC : Codec (List Txt) := textC.list 8 2 (by decide) (by decide)
def msgC0 : Codec PMsg := (numI.seq (numI.seq (wholeC.seq (vecC.seq (vecC.seq (zoneC.seq (zoneC.seq ((itemC.list 32768 2 (by decide) (by decide)).seq (txnC.list 4096 2 (by decide) (by decide)))))))))).emb
 (fun p => ⟨p.1, p.2.1, p.2.2.1, p.2.2.2.1, p.2.2.2.2.1, p.2.2.2.2.2.1, p.2.2.2.2.2.2.1, p.2.2.2.2.2.2.2.1, p.2.2.2.2.2.2.2.2⟩) (fun m => (m.kind, m.ticket, m.whole, m.vec, m.from_, m.zone, m.want, m.items, m.txns)) fun _ _ => rfl
def msgC : Codec PMsg := msgC0.test mformedM 2 (by decide)
def mfits (m : PMsg) : Prop := (∀ x ∈ m.items, fits x.n) ∧ ∀ t ∈ m.txns, ∀ e ∈ t.effs, fits e.n
theorem item_parts {x : PItem} (h : formedB x = true) : dotB x.dot = true ∧ x.key.length ≤ 16 ∧ x.field.length ≤ 16 ∧ x.elem.length ≤ 32 ∧ 1 ≤ x.kind ∧ x.kind ≤ 3 := by
 obtain ⟨g1, g2, g3, g4, g5⟩ := formed_parts.1 h
 have hk : 1 ≤ x.kind ∧ x.kind ≤ 3 := by
  unfold valueB at g5
  simp only [Bool.or_eq_true, Bool.and_eq_true, decide_eq_true_iff] at g5
  omega
 exact ⟨g1, key_len (key_pre g2), key_len g3, g4, hk.1, hk.2⟩
theorem itemC_ok {x : PItem} (h : formedB x = true) (hn : fits x.n) : itemC.ok x := by
 obtain ⟨h1, h2, h3, h4, h5, h6⟩ := item_parts h
 refine ⟨⟨?_, ?_, numI_ok.2 (by show 0 ≤ x.kind ∧ x.kind < _; omega), ?_, hn, dotC_ok h1⟩, rfl⟩
 ·show x.key.length ≤ 65536; omega
 ·show x.field.length ≤ 65536; omega
 ·show x.elem.length ≤ 65536; omega
theorem mayI_parts {m : PMsg} {x : PItem} (h : mayI m x = true) : formedB x = true ∧ covers m.want x.key = true ∧ x.dot.seq ≤ saysI m.vec x.dot.node := by
 unfold mayI at h
 rw [Bool.and_eq_true, Bool.and_eq_true, decide_eq_true_iff] at h
 exact h
theorem vecC_ok {v : Ints} (h : mayV v = true) : vecC.ok v := by
 obtain ⟨h1, h2, h3⟩ := mayV_parts h
 exact ⟨h1, fun n hn => numI_ok.2 (by have := h3 n hn; omega)⟩
theorem zoneC_ok {z : List Txt} (h : zoneB z = true) : zoneC.ok z := by
 obtain ⟨h1, h2⟩ := zoneB_parts h
 exact ⟨h1, fun s hs => by have := h2 s hs; show s.length ≤ 65536; omega⟩
theorem wholeC_ok (b : Bool) : wholeC.ok b := by
 cases b
 ·exact ⟨⟨numI_ok.2 (by show (0 : Int) ≤ 0 ∧ (0 : Int) < _; omega), rfl⟩, rfl⟩
 ·exact ⟨⟨numI_ok.2 (by show (0 : Int) ≤ 1 ∧ (1 : Int) < _; omega), rfl⟩, rfl⟩
theorem msgC_ok {m : PMsg} (h : mformedM m = true) (hn : mfits m) : msgC.ok m := by
 have f := mformedM_iff.1 h
 have hk := msg_kind f.uses
 exact ⟨⟨⟨numI_ok.2 (by show 0 ≤ m.kind ∧ m.kind < _; omega), numI_ok.2 (by show 0 ≤ m.ticket ∧ m.ticket < _; have := f.t0; have := f.t1; omega), wholeC_ok _, vecC_ok f.vec, vecC_ok f.from_, zoneC_ok f.zone, zoneC_ok f.want,
  ⟨f.ilen, fun x hx => itemC_ok (mayI_parts (f.items x hx)).1 (hn.1 x hx)⟩, ⟨f.tlen, fun t ht => txnC_ok (f.txns t ht) (hn.2 t ht)⟩⟩, rfl⟩, h⟩
def mread (b : Bytes) : Option PMsg := match msgC.get b with
 | .ok m [] => some m
 | _ => none
theorem mread_put {m : PMsg} (h : mformedM m = true) (hn : mfits m) : mread (msgC.put m) = some m := by
 have := msgC.fwd m [] (msgC_ok h hn)
 rw [List.append_nil] at this
 unfold mread
 rw [this]
theorem mread_is {b : Bytes} {m : PMsg} (h : mread b = some m) : mformedM m = true ∧ msgC.put m = b ∧ msgC.ok m := by
 unfold mread at h
 split at h
 ·rename_i x e
  obtain rfl := Option.some.inj h
  obtain ⟨o, e2⟩ := msgC.bwd e
  rw [List.append_nil] at e2
  exact ⟨o.2, e2, o⟩
 ·cases h
theorem mput_inj {m n : PMsg} (hm : mformedM m = true) (fm : mfits m) (hn : mformedM n = true) (fn : mfits n) (h : msgC.put m = msgC.put n) : m = n := by
 have h1 := mread_put hm fm
 rw [h, mread_put hn fn] at h1
 exact (Option.some.inj h1).symm
theorem item_len {x : PItem} (h : formedB x = true) : (itemC.put x).length ≤ 144 := by
 obtain ⟨h1, h2, h3, h4, h5, h6⟩ := item_parts h
 show (textC.put x.key ++ (textC.put x.field ++ (numI.put x.kind ++ (textC.put x.elem ++ (iform x.n ++ dotC.put x.dot))))).length ≤ _
 simp only [List.length_append]
 have a1 := text_len h2 (by omega)
 have a2 := text_len h3 (by omega)
 have a3 := numI_len (m := x.kind) (by omega)
 have a4 := text_len h4 (by omega)
 have a5 := iform_len x.n
 have a6 := dotC_len h1
 omega
theorem mpriv_item {m : PMsg} (h : mformedM m = true) {x : PItem} (hx : x ∈ m.items) : covers m.want x.key = true ∧ (1 ≤ x.dot.seq ∧ x.dot.seq ≤ saysI m.vec x.dot.node) := by
 obtain ⟨h1, h2, h3⟩ := mayI_parts ((mformedM_iff.1 h).items x hx)
 have hd := (item_parts h1).1
 unfold dotB at hd
 rw [decide_eq_true_iff] at hd
 exact ⟨h2, by omega, h3⟩
theorem mpriv_txn {m : PMsg} (h : mformedM m = true) (hk : m.kind = 4) {t : PTxn} (ht : t ∈ m.txns) : (1 ≤ t.seq ∧ t.seq ≤ saysI m.vec t.node) ∧ ¬ t.seq ≤ saysI m.from_ t.node ∧ ∀ e ∈ t.effs, covers m.want e.key = true := by
 have f := mformedM_iff.1 h
 have d := f.delta hk
 unfold deltaB at d
 rw [Bool.and_eq_true, Bool.and_eq_true, List.all_eq_true, decide_eq_true_iff] at d
 obtain ⟨d1, d2, d3⟩ := d
 have hv := oFormed_valid (f.txns t ht)
 have hn := (oValid_iff.1 hv).1
 have hs : 1 ≤ t.seq := by
  have h1 := (tformed_parts.1 (f.txns t ht)).1
  unfold inRange at h1
  exact (of_decide_eq_true h1).2.2.1
 refine ⟨⟨hs, ?_⟩, ?_, fun e he => ?_⟩
 ·rw [saysI_of hn.1, ← d3]
  exact oEnd_heard d2 ht hv
 ·rw [saysI_of hn.1]
  have := oChain_above d2 ht hn.1
  omega
 ·have e1 := of_decide_eq_true (d1 t ht)
  have e2 : e ∈ (tonly t m.want).effs := by rw [e1]; exact he
  exact (mem_eonly.1 e2).2
theorem mpriv_push {m : PMsg} (h : mformedM m = true) (hk : m.kind = 3) : m.txns = [] := by
 have u := (mformedM_iff.1 h).uses
 unfold usesB at u
 rw [if_neg (by omega), if_neg (by omega), if_pos hk] at u
 simp only [Bool.and_eq_true] at u
 exact List.isEmpty_iff.1 u.2.2.2
end Go.Proofs.YtfapkepfngddlaaGreat.Plain
namespace Go.Proofs.YtfapkepfngddlaaGreat.Plain
set_option linter.unusedVariables false

def emptyB (m : PMsg) : Bool := decide (m.ticket = 0) && (!m.whole && (m.vec.isEmpty && (m.from_.isEmpty && (m.zone.isEmpty && (m.want.isEmpty && (m.items.isEmpty && m.txns.isEmpty))))))
def clearM (m : PMsg) : PMsg :=
 if m.kind = 1 ∨ m.kind = 6 then { m with txns := [] }
 else if m.kind = 5 then { m with vec := [] }
 else if m.kind = 2 then { m with ticket := 0, whole := false, vec := [], zone := [], want := [] }
 else if m.kind = 3 then { m with ticket := 0, vec := [], want := [], items := [] }
 else { m with ticket := 0, from_ := [], vec := [], want := [], txns := [] }
theorem uses_is {m : PMsg} (hk : 1 ≤ m.kind ∧ m.kind ≤ 6) : usesB m = emptyB (clearM m) := by
 have : m.kind = 1 ∨ m.kind = 2 ∨ m.kind = 3 ∨ m.kind = 4 ∨ m.kind = 5 ∨ m.kind = 6 := by omega
 rcases this with e | e | e | e | e | e <;> simp [usesB, clearM, emptyB, e]
theorem uses_not {m : PMsg} (hk : ¬ (1 ≤ m.kind ∧ m.kind ≤ 6)) : usesB m = false := by
 cases e : usesB m with
 | false => rfl
 | true => exact absurd (msg_kind e) hk
def wrongI (m : PMsg) (x : PItem) : Bool := !formedB x || (!covers m.want x.key || !(decide (1 ≤ x.dot.seq) && decide (x.dot.seq ≤ saysI m.vec x.dot.node)))
theorem wrong_is (m : PMsg) (x : PItem) : wrongI m x = !mayI m x := by
 unfold wrongI mayI
 cases h : formedB x with
 | false => rfl
 | true =>
  have hd := (item_parts h).1
  unfold dotB at hd
  rw [decide_eq_true_iff] at hd
  rw [decide_eq_true (show 1 ≤ x.dot.seq by omega)]
  cases covers m.want x.key <;> simp
def itemsB (m : PMsg) : Bool := decide (m.items.length ≤ 32768) && (!m.items.any (wrongI m) && decide (m.items = inorm m.items))
def txnsB (l : List PTxn) : Bool := decide (l.length ≤ 4096) && !l.any (fun t => !tformedB t)
def beyondB (z : List Txt) (t : PTxn) : Bool := t.effs.any fun e => !covers z e.key
def leadB (m : PMsg) : Bool := m.txns.all (fun t => !beyondB m.want t) && (oChain m.from_ m.txns && decide (m.vec = oEnd m.from_ m.txns))
theorem tonly_is (t : PTxn) (z : List Txt) : decide (tonly t z = t) = !beyondB z t := by
 have h : tonly t z = t ↔ ∀ e ∈ t.effs, covers z e.key = true := by
  unfold tonly
  constructor
  ·intro h
   have : eonly t.effs z = t.effs := by
    have := congrArg PTxn.effs h
    exact this
   exact List.filter_eq_self.1 this
  ·intro h
   have : eonly t.effs z = t.effs := List.filter_eq_self.2 h
   rw [this]
 unfold beyondB
 cases e : t.effs.any (fun e => !covers z e.key) with
 | false =>
  rw [List.any_eq_false] at e
  refine decide_eq_true (h.2 fun x hx => ?_)
  have := e x hx
  simpa using this
 | true =>
  rw [List.any_eq_true] at e
  obtain ⟨x, hx, he⟩ := e
  refine decide_eq_false fun g => ?_
  rw [h.1 g x hx] at he
  cases he
theorem lead_is (m : PMsg) : leadB m = deltaB m := by
 unfold leadB deltaB
 congr 1
 ·congr 1
  funext t
  exact (tonly_is t m.want).symm
 ·congr 1
  exact decide_eq_decide.2 ⟨fun h => h.symm, fun h => h.symm⟩
theorem items_is (m : PMsg) : itemsB m = (decide (m.items.length ≤ 32768) && (m.items.all (mayI m) && decide (inorm m.items = m.items))) := by
 unfold itemsB
 congr 1
 congr 1
 ·rw [List.not_any_eq_all_not]
  congr 1
  funext x
  rw [wrong_is, Bool.not_not]
 ·exact decide_eq_decide.2 ⟨fun h => h.symm, fun h => h.symm⟩
theorem txns_is (l : List PTxn) : txnsB l = (decide (l.length ≤ 4096) && l.all tformedB) := by
 unfold txnsB
 congr 1
 rw [List.not_any_eq_all_not]
 congr 1
 funext x
 rw [Bool.not_not]
def isVecB (v : Ints) : Bool := decide (v.length ≤ 8) && (decide (v = trim v) && !v.any (fun n => decide (n > 1073741824)))
theorem isVec_is (v : Ints) : isVecB v = mayV v := by
 unfold isVecB mayV
 congr 1
 congr 1
 ·exact decide_eq_decide.2 ⟨fun h => h.symm, fun h => h.symm⟩
 ·rw [List.not_any_eq_all_not]
  congr 1
  funext n
  by_cases h : n > 1073741824
  ·rw [decide_eq_true h, decide_eq_false (show ¬ n ≤ 1073741824 by omega)]; rfl
  ·rw [decide_eq_false h, decide_eq_true (show n ≤ 1073741824 by omega)]; rfl
structure PrgR (m : PMsg) (r : Bool) : Prop where
 uses : usesB m = false → r = false
 t0 : ¬ 0 ≤ m.ticket → r = false
 t1 : ¬ m.ticket ≤ 1073741824 → r = false
 vec : mayV m.vec = false → r = false
 from_ : mayV m.from_ = false → r = false
 zone : zoneB m.zone = false → r = false
 want : zoneB m.want = false → r = false
 items : itemsB m = false → r = false
 txns : txnsB m.txns = false → r = false
 last : usesB m = true → 0 ≤ m.ticket → m.ticket ≤ 1073741824 → mayV m.vec = true → mayV m.from_ = true → zoneB m.zone = true → zoneB m.want = true → itemsB m = true → txnsB m.txns = true → r = (!decide (m.kind = 4) || leadB m)
theorem prgR {m : PMsg} {r : Bool} (hr : mformedM m = r) : PrgR m r := by
 have e : mformedM m = (usesB m && (decide (0 ≤ m.ticket) && (decide (m.ticket ≤ 1073741824) && (mayV m.vec && (mayV m.from_ && (zoneB m.zone && (zoneB m.want && (itemsB m && (txnsB m.txns && (!decide (m.kind = 4) || leadB m)))))))))) := by
  rw [items_is, txns_is, lead_is]
  unfold mformedM
  generalize usesB m = a1
  generalize decide (0 ≤ m.ticket) = a2
  generalize decide (m.ticket ≤ 1073741824) = a3
  generalize mayV m.vec = a4
  generalize mayV m.from_ = a5
  generalize zoneB m.zone = a6
  generalize zoneB m.want = a7
  generalize decide (m.items.length ≤ 32768) = a8
  generalize decide (m.txns.length ≤ 4096) = a9
  generalize m.items.all (mayI m) = b1
  generalize decide (inorm m.items = m.items) = b2
  generalize m.txns.all tformedB = b3
  generalize (!decide (m.kind = 4) || deltaB m) = b4
  cases a8 <;> cases a9 <;> simp [Bool.and_assoc]
 rw [hr] at e
 subst e
 refine ⟨?_, ?_, ?_, ?_, ?_, ?_, ?_, ?_, ?_, ?_⟩
 ·intro h; rw [h]; rfl
 ·intro h; rw [decide_eq_false h]; simp
 ·intro h; rw [decide_eq_false h]; simp
 ·intro h; rw [h]; simp
 ·intro h; rw [h]; simp
 ·intro h; rw [h]; simp
 ·intro h; rw [h]; simp
 ·intro h; rw [h]; simp
 ·intro h; rw [h]; simp
 ·intro h1 h2 h3 h4 h5 h6 h7 h8 h9
  rw [h1, h4, h5, h6, h7, h8, h9, decide_eq_true h2, decide_eq_true h3]
  simp
end Go.Proofs.YtfapkepfngddlaaGreat.Plain
