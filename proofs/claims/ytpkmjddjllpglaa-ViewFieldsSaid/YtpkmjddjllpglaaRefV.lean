/- What the document's own texts, Field, Fields and Same of fields leave. (Written by gen-ref.py.) -/
import Derived.Test.YtpkmjddjllpglaaVal
import Derived.Test.YtpkmjddjllpglaaRefA
import Derived.Test.YtpkmjddjllpglaaRefO
import Derived.Test.YtpkmjddjllpglaaRefSame
import Derived.Test.YtpkmjddjllpglaaNmRef
import Derived.Test.YtpkmjddjllpglaaI64
import Derived.Deep.Cut
namespace Go.Proofs.Ytpkmjddjllpglaa
open Go.RowKit Plain
set_option linter.unusedVariables false

/-- of the first k items those that pass, and what is taken of each -/
def upto {α : Type} (p : PItem → Bool) (f : PItem → α) (l : List PItem) (k : Nat) : List α := ((l.take k).filter p).map f
theorem upto_zero {α : Type} (p : PItem → Bool) (f : PItem → α) (l : List PItem) : upto p f l 0 = [] := rfl
theorem upto_all {α : Type} (p : PItem → Bool) (f : PItem → α) (l : List PItem) : upto p f l l.length = (l.filter p).map f := by unfold upto; rw [List.take_length]
theorem upto_len {α : Type} (p : PItem → Bool) (f : PItem → α) (l : List PItem) (k : Nat) : (upto p f l k).length ≤ l.length := by
  unfold upto
  rw [List.length_map]
  have h1 := List.length_filter_le p (l.take k)
  have h2 : (l.take k).length ≤ l.length := by rw [List.length_take]; omega
  omega
theorem upto_yes {α : Type} {l : List PItem} {k : Nat} (hk : k < l.length) (p : PItem → Bool) (f : PItem → α) (h : p (l.getD k default) = true) : upto p f l (k + 1) = upto p f l k ++ [f (l.getD k default)] := by
  have e : l.take (k + 1) = l.take k ++ [l.getD k default] := by
    rw [List.take_succ_eq_append_getElem hk]
    simp [List.getD, List.getElem?_eq_getElem hk]
  unfold upto
  rw [e, List.filter_append, List.filter_cons, if_pos h, List.filter_nil, List.map_append]
  rfl
theorem upto_no {α : Type} {l : List PItem} {k : Nat} (hk : k < l.length) (p : PItem → Bool) (f : PItem → α) (h : p (l.getD k default) = false) : upto p f l (k + 1) = upto p f l k := by
  have e : l.take (k + 1) = l.take k ++ [l.getD k default] := by
    rw [List.take_succ_eq_append_getElem hk]
    simp [List.getD, List.getElem?_eq_getElem hk]
  unfold upto
  rw [e, List.filter_append, List.filter_cons, if_neg (by rw [h]; decide), List.filter_nil, List.append_nil]
theorem kind_no1 {x : PItem} {key field : Txt} {kind : Int} (h : ¬ x.key = key) : ofKind key field kind x = false := by unfold ofKind inField; rw [decide_eq_false h]; rfl
theorem kind_no2 {x : PItem} {key field : Txt} {kind : Int} (h : ¬ x.field = field) : ofKind key field kind x = false := by unfold ofKind inField; rw [decide_eq_false h, Bool.and_false]; rfl
theorem kind_no3 {x : PItem} {key field : Txt} {kind : Int} (h : ¬ x.kind = kind) : ofKind key field kind x = false := by unfold ofKind; rw [decide_eq_false h, Bool.and_false]
theorem kind_yes {x : PItem} {key field : Txt} {kind : Int} (h1 : x.key = key) (h2 : x.field = field) (h3 : x.kind = kind) : ofKind key field kind x = true := by unfold ofKind inField; rw [decide_eq_true h1, decide_eq_true h2, decide_eq_true h3]; rfl

set_option maxRecDepth 100000 in
set_option maxHeartbeats 4000000 in
/-- texts -/
theorem rvtexts_any (key field : Txt) (kind : Int) {v : Value} {l : List PItem} {w : World} (hv : SeqE LItem w v l) (hn : l.length ≤ 100000) :
    Calls Try.prog 25 #[v, .string (bt key), .string (bt field), .int .i64 kind] w (GivesT w (vtexts l key field kind)) := by
  have HR : Hid (vtexts l key field kind = once (upto (ofKind key field kind) (fun x => x.elem) l l.length)) := Lib.hid (by rw [upto_all]; rfl)
  rw [HR.out]
  have KO := Lib.hid (fun (W : World) (u : Value) (h : SeqT W u (upto (ofKind key field kind) (fun x => x.elem) l l.length)) => ronce_any h (Nat.le_trans (upto_len _ _ _ _) (by omega)))
  have PY0 := Lib.hid (fun k (hk : k < l.length) h => upto_yes hk (ofKind key field kind) (fun x => x.elem) h)
  have P00 := Lib.hid (upto_zero (ofKind key field kind) (fun x => x.elem) l)
  have PN0 := Lib.hid (fun k (hk : k < l.length) h => upto_no hk (ofKind key field kind) (fun x => x.elem) h)
  have HL0 : Hid (∀ k, (upto (ofKind key field kind) (fun x => x.elem) l k).length ≤ 100000) := Lib.hid (fun k => Nat.le_trans (upto_len _ _ _ _) hn)
  obtain ⟨a, cap, rfl, g1, g2, g0, h⟩ := hv.parts
  have HS := Lib.hid h
  clear hv h g0 HR
  obtain ⟨n, hN⟩ : ∃ n, l.length = n := ⟨_, rfl⟩
  rw [hN] at g1 hn HS PY0 PN0 KO ⊢
  have LN := Lib.hid hN
  clear hN
  generalize upto (ofKind key field kind) (fun x => x.elem) l = P at *
  go_enter Try.func25, Try.ntmps25
  go_wp2_with fail
  go_loopw [9, 10] (fun z i wr => ∃ k : Nat, k ≤ n ∧ i = .int .i64 k ∧ OwnsT w.heap.size wr z (P k) ∧ Below w.heap.size w wr) (fun _ i _ => n - (intOf i).toNat)
  case atStart => exact ⟨0, Nat.zero_le _, rfl, by rw [P00.out]; exact OwnsT.nil _ _, Below.refl _ _⟩
  case round =>
    obtain ⟨k, hk, rfl, ho, hb⟩ := hrel
    have HO := Lib.hid ho
    have HB := Lib.hid hb
    have HL := Lib.hid (HL0.out k)
    clear ho hb
    by_cases hlt : k < n
    · have PY := Lib.hid (PY0.out k hlt)
      have PN := Lib.hid (PN0.out k hlt)
      obtain ⟨b, o, c, hv, -, -, -, hc⟩ := items_spot (HS.out.below HB.out) (by rw [LN.out]; omega)
      rw [LN.out] at hv
      simp only [Value.slice.injEq] at hv
      obtain ⟨rfl, -, rfl⟩ := hv
      obtain ⟨c0, c1, c2, c3, c4, c5, c6, c7⟩ := hc k (by rw [LN.out]; exact hlt)
      clear hc
      have t1 := text_eq (l.getD k default).key key
      have t2 := text_eq (l.getD k default).field field
      generalize l.getD k default = x at *
      by_cases h1 : x.key = key
      rotate_left
      · rw [decide_eq_false h1] at t1
        have HX := Lib.hid (PN.out (kind_no1 h1))
        clear h1
        go_wp2_with fail
        go_roundw
        case rel => exact ⟨k + 1, by omega, by go_num, by rw [HX.out]; exact HO.out, HB.out⟩
        case measure => simp [intOf]; omega
      rw [decide_eq_true h1] at t1
      by_cases h2 : x.field = field
      rotate_left
      · rw [decide_eq_false h2] at t2
        have HX := Lib.hid (PN.out (kind_no2 h2))
        clear h1 h2
        go_wp2_with fail
        go_roundw
        case rel => exact ⟨k + 1, by omega, by go_num, by rw [HX.out]; exact HO.out, HB.out⟩
        case measure => simp [intOf]; omega
      rw [decide_eq_true h2] at t2
      by_cases h3 : x.kind = kind
      rotate_left
      · have t3 : (x.kind == kind) = false := beq_false_of_ne h3
        have HX := Lib.hid (PN.out (kind_no3 h3))
        clear h1 h2 h3
        go_wp2_with fail
        go_roundw
        case rel => exact ⟨k + 1, by omega, by go_num, by rw [HX.out]; exact HO.out, HB.out⟩
        case measure => simp [intOf]; omega
      have t3 : (x.kind == kind) = true := beq_iff_eq.2 h3
      have HX := Lib.hid (PY.out (kind_yes h1 h2 h3))
      clear h1 h2 h3
      have S1 := Lib.hid (fun (W : World) => SeqT.one W x.elem)
      unfold tv at S1
      go_wp2_with (at_builtin; refine wpList_append_texts rfl (.tmp 42) (.tmp 48) rfl w.heap.size rfl (HO.out.alloc _) rfl (S1.out _) (by have := HL.out; simp at *; omega) (by have := HB.out.size; simp; omega) ?_)
      intro v' w2 ho' hgr _
      have O2 := Lib.hid ho'
      rw [← HX.out] at O2
      have G2 : Hid (Below w.heap.size w w2) := Lib.hid ((HB.out.alloc HB.out.size _).grown hgr (by have := HB.out.size; simp; omega) (fun j hj => (HO.out.lt j hj).1))
      clear ho' hgr
      go_wp2_with fail
      go_roundw
      case rel => exact ⟨k + 1, by omega, by go_num, O2.out, G2.out⟩
      case measure => simp [intOf]; omega
    · obtain rfl : k = n := by omega
      have K := KO.out wr _ HO.out.seq
      obtain ⟨a2, c2, rfl, -⟩ := HO.out.parts
      clear HO HL
      go_wp2_with fail
      refine K.mono ?_
      rintro e w2 ⟨v2, rfl, ho, hb⟩
      have O := Lib.hid ho.seq
      have G := Lib.hid (HB.out.trans (hb.mono HB.out.size))
      obtain ⟨a3, c3, rfl, -⟩ := ho.parts
      clear ho hb K
      go_wp2_with fail
      go_ret
      exact ⟨_, rfl, O.out, G.out⟩

set_option maxRecDepth 100000 in
set_option maxHeartbeats 4000000 in
/-- Fields -/
theorem rvfields_any (key : Txt) {v : Value} {l : List PItem} {w : World} (hv : SeqE LItem w v l) (hn : l.length ≤ 100000) :
    Calls Try.prog 16 #[v, .string (bt key)] w (GivesT w (vfields l key)) := by
  have HR : Hid (vfields l key = once (upto (fun x => decide (x.key = key)) (fun x => x.field) l l.length)) := Lib.hid (by rw [upto_all]; rfl)
  rw [HR.out]
  have KO := Lib.hid (fun (W : World) (u : Value) (h : SeqT W u (upto (fun x => decide (x.key = key)) (fun x => x.field) l l.length)) => ronce_any h (Nat.le_trans (upto_len _ _ _ _) (by omega)))
  have PY0 := Lib.hid (fun k (hk : k < l.length) h => upto_yes hk (fun x => decide (x.key = key)) (fun x => x.field) h)
  have P00 := Lib.hid (upto_zero (fun x => decide (x.key = key)) (fun x => x.field) l)
  have PN0 := Lib.hid (fun k (hk : k < l.length) h => upto_no hk (fun x => decide (x.key = key)) (fun x => x.field) h)
  have HL0 : Hid (∀ k, (upto (fun x => decide (x.key = key)) (fun x => x.field) l k).length ≤ 100000) := Lib.hid (fun k => Nat.le_trans (upto_len _ _ _ _) hn)
  obtain ⟨a, cap, rfl, g1, g2, g0, h⟩ := hv.parts
  have HS := Lib.hid h
  clear hv h g0 HR
  obtain ⟨n, hN⟩ : ∃ n, l.length = n := ⟨_, rfl⟩
  rw [hN] at g1 hn HS PY0 PN0 KO ⊢
  have LN := Lib.hid hN
  clear hN
  generalize upto (fun x => decide (x.key = key)) (fun x => x.field) l = P at *
  go_enter Try.func16, Try.ntmps16
  go_wp2_with fail
  go_loopw [5, 6] (fun z i wr => ∃ k : Nat, k ≤ n ∧ i = .int .i64 k ∧ OwnsT w.heap.size wr z (P k) ∧ Below w.heap.size w wr) (fun _ i _ => n - (intOf i).toNat)
  case atStart => exact ⟨0, Nat.zero_le _, rfl, by rw [P00.out]; exact OwnsT.nil _ _, Below.refl _ _⟩
  case round =>
    obtain ⟨k, hk, rfl, ho, hb⟩ := hrel
    have HO := Lib.hid ho
    have HB := Lib.hid hb
    have HL := Lib.hid (HL0.out k)
    clear ho hb
    by_cases hlt : k < n
    · have PY := Lib.hid (PY0.out k hlt)
      have PN := Lib.hid (PN0.out k hlt)
      obtain ⟨b, o, c, hv, -, -, -, hc⟩ := items_spot (HS.out.below HB.out) (by rw [LN.out]; omega)
      rw [LN.out] at hv
      simp only [Value.slice.injEq] at hv
      obtain ⟨rfl, -, rfl⟩ := hv
      obtain ⟨c0, c1, c2, c3, c4, c5, c6, c7⟩ := hc k (by rw [LN.out]; exact hlt)
      clear hc
      have t1 := text_eq (l.getD k default).key key
      generalize l.getD k default = x at *
      by_cases h1 : x.key = key
      rotate_left
      · rw [decide_eq_false h1] at t1
        have HX := Lib.hid (PN.out (decide_eq_false h1))
        clear h1
        go_wp2_with fail
        go_roundw
        case rel => exact ⟨k + 1, by omega, by go_num, by rw [HX.out]; exact HO.out, HB.out⟩
        case measure => simp [intOf]; omega
      rw [decide_eq_true h1] at t1
      have HX := Lib.hid (PY.out (decide_eq_true h1))
      clear h1
      have S1 := Lib.hid (fun (W : World) => SeqT.one W x.field)
      unfold tv at S1
      go_wp2_with (at_builtin; refine wpList_append_texts rfl (.tmp 20) (.tmp 26) rfl w.heap.size rfl (HO.out.alloc _) rfl (S1.out _) (by have := HL.out; simp at *; omega) (by have := HB.out.size; simp; omega) ?_)
      intro v' w2 ho' hgr _
      have O2 := Lib.hid ho'
      rw [← HX.out] at O2
      have G2 : Hid (Below w.heap.size w w2) := Lib.hid ((HB.out.alloc HB.out.size _).grown hgr (by have := HB.out.size; simp; omega) (fun j hj => (HO.out.lt j hj).1))
      clear ho' hgr
      go_wp2_with fail
      go_roundw
      case rel => exact ⟨k + 1, by omega, by go_num, O2.out, G2.out⟩
      case measure => simp [intOf]; omega
    · obtain rfl : k = n := by omega
      have K := KO.out wr _ HO.out.seq
      obtain ⟨a2, c2, rfl, -⟩ := HO.out.parts
      clear HO HL
      go_wp2_with fail
      refine K.mono ?_
      rintro e w2 ⟨v2, rfl, ho, hb⟩
      have O := Lib.hid ho.seq
      have G := Lib.hid (HB.out.trans (hb.mono HB.out.size))
      obtain ⟨a3, c3, rfl, -⟩ := ho.parts
      clear ho hb K
      go_wp2_with fail
      go_ret
      exact ⟨_, rfl, O.out, G.out⟩
end Go.Proofs.Ytpkmjddjllpglaa
