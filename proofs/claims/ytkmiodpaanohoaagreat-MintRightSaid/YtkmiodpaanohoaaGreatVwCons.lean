/- slices.Sort and slices.Compact of texts of the call's own: but for the row nothing changes; the program's own risingOnce. What the program's own Field, Fields, Same and Empty of fields leave. (Written by gen-con.py.) -/
import Derived.Test.YtkmiodpaanohoaaGreatShelfC
import Derived.Test.YtkmiodpaanohoaaGreatVals
import Derived.Lib.OwnKind
import Derived.Test.YtkmiodpaanohoaaGreatVwRefs
import Derived.Deep.Cut
import Derived.Deep.QuietTactic
namespace Go.Proofs.YtkmiodpaanohoaaGreat
open Go.RowKit Plain
set_option linter.unusedVariables false

theorem grown_put {w u : World} {g off : Nat} {d : Array Txt} (hb : w.grownBy u (some g)) (n : Nat) (os : Array Obj) : w.grownBy (Sort.grow (Sort.putRow encStr (Sort.ahead u n) g off d) os) (some g) := by
  refine ⟨hb.os, hb.tape, hb.output, ?_, fun k hk hne => ?_⟩
  · have := hb.size
    rw [Sort.size_grow, Sort.size_putRow]
    show w.heap.size ≤ u.heap.size + os.size
    omega
  · have hsz := hb.size
    have hlt : k < u.heap.size := by omega
    rw [Sort.heap_grow_old _ _ (by rw [Sort.size_putRow]; exact hlt)]
    refine Eq.trans ?_ (hb.block k hk hne)
    show ((Sort.ahead u n).heap.modify g _)[k]? = u.heap[k]?
    rw [Array.getElem?_modify, if_neg (fun e => hne (by rw [e]))]
    rfl
/-- a row that was sorted stands, whatever else grows -/
def StaysT (w : World) (r : Option Nat) (u : Value) (xs : List Txt) : Prop := SeqT w u xs ∧ ∀ W q, w.grownBy W q → (r = none ∨ r ≠ q) → SeqT W u xs
/-- slices.Sort of texts of the call's own, then slices.Compact: but for the row nothing changes -/
theorem sort_textsG {B : Nat} {v : Value} {xs : List Txt} {w : World} (hv : OwnsT B w v xs) (hx : xs.length ≤ 1000000) :
    Calls Tryz.prog 56 #[v] w fun e w' => e = .returned (.tuple #[]) ∧ w.grownBy w' v.ownBlock ∧ Calls Tryz.prog 57 #[v] w' fun e w'' => ∃ u, e = .returned u ∧ StaysT w'' v.ownBlock u (once xs) ∧ w.grownBy w'' v.ownBlock := by
  have hlt := hv.lt
  have hcase : (v = .slice none 0 0 ∧ xs = []) ∨ ∃ g c, v = .slice (some ⟨g, 0, none⟩) xs.length c ∧ xs.length ≤ c ∧ c ≤ maxLen ∧ B ≤ g ∧ g < w.heap.size := by
    rcases hv.2 with ⟨rfl, hn⟩ | ⟨g, cap, cur, rfl, h1, hg, hnc, hcm, -, -⟩
    · exact .inl ⟨rfl, List.eq_nil_of_length_eq_zero hn⟩
    · exact .inr ⟨g, cap, rfl, hnc, hcm, h1, (hlt g rfl).2⟩
  rcases hcase with ⟨rfl, rfl⟩ | ⟨g, c, rfl, h1, h2, h3, h4⟩
  · refine (Tryz.slices_Sort_string_none none 0 w).mono fun e w' ⟨he, hw⟩ => ?_
    subst hw
    refine ⟨he, World.grownBy.refl _ _, ?_⟩
    exact (Tryz.slices_Compact_string_empty none 0 w').mono fun e w'' ⟨he, hw⟩ => ⟨_, he, ⟨SeqT.nil _, fun W q _ _ => SeqT.nil W⟩, by rw [hw]; exact World.grownBy.refl _ _⟩
  · have hH := holds_of_owns hv
    refine (Tryz.slices_Sort_string g 0 c xs w hH h4 (by omega)).mono fun e w' ⟨he, n, os, hw⟩ => ?_
    have hl : (xs.mergeSort fun x y => decide (x ≤ y)).length = xs.length := List.length_mergeSort _
    have hH2 : Sort.Holds encStr w' g 0 (xs.mergeSort fun x y => decide (x ≤ y)).toArray := by rw [hw]; exact holds_put hH (by simp [hl]) h4 n os
    have hb2 : w.grownBy w' (some g) := by rw [hw]; exact grown_put (World.grownBy.refl _ _) n os
    have h4' : g < w'.heap.size := by have := hb2.size; omega
    have hm : maxLen = 9223372036854775807 := rfl
    refine ⟨he, hb2, ?_⟩
    have K := Tryz.slices_Compact_string g 0 c (xs.mergeSort fun x y => decide (x ≤ y)) w' hH2 (by omega) (by omega)
    rw [hl] at K
    refine K.mono fun e w'' ⟨he, q, hw2⟩ => ?_
    have hlc : (once xs).length ≤ xs.length := once_len xs
    rw [compact_sort] at he hw2
    have hH3 : Sort.Holds encStr w'' g 0 (once xs ++ List.replicate (xs.length - (once xs).length) []).toArray := by
      rw [hw2, ← Sort.grow_empty (Sort.putRow _ _ _ _ _)]
      exact holds_put hH2 (by simp [hl]; omega) h4' q #[]
    have hS : SeqT w'' (.slice (some ⟨g, 0, none⟩) (once xs).length c) (once xs) := seq_of_holds (holds_first hH3) (by omega) h2
    have hb3 : w.grownBy w'' (some g) := by
      rw [hw2, ← Sort.grow_empty (Sort.putRow _ _ _ _ _)]
      exact grown_put hb2 q #[]
    refine ⟨_, he, ⟨hS, fun W q hg hne => ?_⟩, hb3⟩
    obtain ⟨a, cap, hv', g1, g2, g0, gg⟩ := hS
    refine ⟨a, cap, hv', g1, g2, g0, fun hp => ?_⟩
    obtain ⟨b, off, rfl, hc⟩ := gg hp
    simp only [Value.slice.injEq, Option.some.injEq, Addr.mk.injEq, and_true] at hv'
    obtain ⟨⟨rfl, rfl⟩, -, rfl⟩ := hv'
    refine ⟨_, _, rfl, fun j hj => hg.cell (hc j hj) ?_⟩
    rcases hne with h | h
    · cases h
    · exact h

set_option maxRecDepth 100000 in
set_option maxHeartbeats 1000000 in
/-- risingOnce -/
theorem vonce_any {B : Nat} {v : Value} {xs : List Txt} {w : World} (hv : OwnsT B w v xs) (hx : xs.length ≤ 1000000) :
    Calls Tryz.prog 38 #[v] w fun e w' => ∃ u, e = .returned u ∧ StaysT w' v.ownBlock u (once xs) ∧ w.grownBy w' v.ownBlock := by
  have K := sort_textsG hv hx
  obtain ⟨a, cap, rfl, -⟩ := hv.parts
  generalize Value.ownBlock (.slice a xs.length cap) = row at *
  generalize xs.length = n at *
  generalize once xs = ys at *
  clear hv hx
  go_enter Tryz.func38, Tryz.ntmps38
  go_wp2_with fail
  refine K.mono ?_
  rintro e w2 ⟨rfl, -, K2⟩
  clear K
  go_wp2_with fail
  refine K2.mono ?_
  rintro e w3 ⟨u3, rfl, hs, hg⟩
  obtain ⟨a3, c3, rfl, -⟩ := hs.1.parts
  have S := Lib.hid hs
  have G := Lib.hid hg
  clear hs hg K2
  go_wp2_with fail
  go_ret
  exact ⟨_, rfl, S.out, G.out⟩

/-! ### what stands when another row grows -/
def ApartV (u v : Value) : Prop := u.ownBlock = none ∨ u.ownBlock ≠ v.ownBlock
theorem ApartV.symm {u v : Value} (h : ApartV u v) : ApartV v u := by
  unfold ApartV at *
  cases hv : v.ownBlock with
  | none => exact .inl rfl
  | some k =>
    right
    rcases h with h | h
    · rw [h]; exact fun e => by cases e
    · rw [hv] at h; exact fun e => h e.symm
theorem apart_next {B n : Nat} {w : World} {u v v' : Value} {ys : List Txt} (hu : OwnsT B w u ys) (ha : ApartV u v) (hat : v'.ownBlock = v.ownBlock ∨ v'.ownBlock = some n) (hs : w.heap.size ≤ n) : ApartV u v' := by
  rcases hat with h | h
  · unfold ApartV; rw [h]; exact ha
  · unfold ApartV; rw [h]
    cases hub : u.ownBlock with
    | none => exact .inl rfl
    | some k => right; have := (hu.lt k hub).2; intro e; cases e; omega
theorem OwnsT.kept {B : Nat} {w w' : World} {u v : Value} {ys : List Txt} (h : OwnsT B w u ys) (hg : w.grownBy w' v.ownBlock) (ha : ApartV u v) : OwnsT B w' u ys := World.ownsRow.kept h hg ha
theorem OwnsT.keptN {B : Nat} {w w' : World} {u v : Value} {ys : List Txt} {ns : List Int} {C : Nat} (h : OwnsT B w u ys) (hv : OwnE LI64 C w v ns) (hg : w.grownBy w' v.ownBlock) : OwnsT B w' u ys := by
  refine World.ownsRow.kept h hg ?_
  cases hub : u.ownBlock with
  | none => exact .inl rfl
  | some k =>
    right
    intro e
    obtain ⟨vals, ho, -⟩ := hv
    obtain ⟨c1, f1, h1⟩ := Lib.ownsRow_kind h k hub
    obtain ⟨c2, f2, h2⟩ := Lib.ownsRow_kind ho k e.symm
    rw [h1] at h2
    have h3 := congrArg (fun o : Option Obj => match o with | some (.cells _ t _) => t | _ => 0) h2
    exact absurd h3 (show ¬ 9 = 2 by decide)
theorem OwnE.keptT {B : Nat} {w w' : World} {u v : Value} {ys : List Txt} {ns : List Int} {C : Nat} (h : OwnE LI64 B w u ns) (hv : OwnsT C w v ys) (hg : w.grownBy w' v.ownBlock) : OwnE LI64 B w' u ns := by
  obtain ⟨vals, ho, hr⟩ := h
  refine ⟨vals, World.ownsRow.kept ho hg ?_, hr.1, fun j x hj => hr.2 j x hj⟩
  cases hub : u.ownBlock with
  | none => exact .inl rfl
  | some k =>
    right
    intro e
    obtain ⟨c1, f1, h1⟩ := Lib.ownsRow_kind hv k e.symm
    obtain ⟨c2, f2, h2⟩ := Lib.ownsRow_kind ho k hub
    rw [h1] at h2
    have h3 := congrArg (fun o : Option Obj => match o with | some (.cells _ t _) => t | _ => 0) h2
    exact absurd h3 (show ¬ 9 = 2 by decide)
end Go.Proofs.YtkmiodpaanohoaaGreat
namespace Go.Proofs.YtkmiodpaanohoaaGreat
open Go.RowKit Plain
set_option linter.unusedVariables false

set_option maxRecDepth 100000 in
set_option maxHeartbeats 8000000 in
/-- Field -/
theorem vfieldP_any (key field : Txt) {v : Value} {l : List PItem} {w : World} (hv : SeqE LItem w v l) (hn : l.length ≤ 1000) (hf : ∀ x ∈ l, Nm.Plain.fits x.n) :
    Calls Tryz.prog 17 #[v, .string (bt key), .string (bt field)] w (GivesV w (vfield l key field)) := by
  have PYE0 := Lib.hid (fun k (hk : k < l.length) h => upto_yes hk (ofKind key field 1) (fun x => x.elem) h)
  have P0E := Lib.hid (upto_zero (ofKind key field 1) (fun x => x.elem) l)
  have PNE0 := Lib.hid (fun k (hk : k < l.length) h => upto_no hk (ofKind key field 1) (fun x => x.elem) h)
  have HLE0 : Hid (∀ k, (upto (ofKind key field 1) (fun x => x.elem) l k).length ≤ 1000) := Lib.hid (fun k => Nat.le_trans (upto_len _ _ _ _) hn)
  have PYR0 := Lib.hid (fun k (hk : k < l.length) h => upto_yes hk (ofKind key field 2) (fun x => x.elem) h)
  have P0R := Lib.hid (upto_zero (ofKind key field 2) (fun x => x.elem) l)
  have PNR0 := Lib.hid (fun k (hk : k < l.length) h => upto_no hk (ofKind key field 2) (fun x => x.elem) h)
  have HLR0 : Hid (∀ k, (upto (ofKind key field 2) (fun x => x.elem) l k).length ≤ 1000) := Lib.hid (fun k => Nat.le_trans (upto_len _ _ _ _) hn)
  have PYC0 := Lib.hid (fun k (hk : k < l.length) h => upto_yes hk (ofKind key field 3) (fun x => x.n) h)
  have P0C := Lib.hid (upto_zero (ofKind key field 3) (fun x => x.n) l)
  have PNC0 := Lib.hid (fun k (hk : k < l.length) h => upto_no hk (ofKind key field 3) (fun x => x.n) h)
  have HLC0 : Hid (∀ k, (upto (ofKind key field 3) (fun x => x.n) l k).length ≤ 1000) := Lib.hid (fun k => Nat.le_trans (upto_len _ _ _ _) hn)
  have KT := Lib.hid (fun (W : World) (u : Value) (h : SeqE LI64 W u (vcounts l key field)) => Nm.tot_seq (nm_of h) (by have := vcounts_len l key field; omega) (fun n hn => by
    unfold vcounts at hn
    obtain ⟨x, hx, rfl⟩ := List.mem_map.1 hn
    exact hf x (List.mem_filter.1 hx).1))
  have HVF : Hid (vfield l key field = ⟨vtexts l key field 1, vtexts l key field 2, Nm.Plain.sumV (Nm.Plain.tot (vcounts l key field)), decide (¬ Nm.Plain.fits (Nm.Plain.tot (vcounts l key field)))⟩) := Lib.hid rfl
  rw [HVF.out]
  have HPC : Hid (upto (ofKind key field 3) (fun x => x.n) l l.length = vcounts l key field) := Lib.hid (by rw [upto_all]; rfl)
  have HPE : Hid (once (upto (ofKind key field 1) (fun x => x.elem) l l.length) = vtexts l key field 1) := Lib.hid (by rw [upto_all]; rfl)
  have HPR : Hid (once (upto (ofKind key field 2) (fun x => x.elem) l l.length) = vtexts l key field 2) := Lib.hid (by rw [upto_all]; rfl)
  clear HVF
  obtain ⟨a, cap, rfl, g1, g2, g0, h⟩ := hv.parts
  have HS := Lib.hid h
  clear hv h g0 hf
  obtain ⟨n, hN⟩ : ∃ n, l.length = n := ⟨_, rfl⟩
  rw [hN] at g1 hn HS PYE0 PYR0 PYC0 PNE0 PNR0 PNC0 HPC HPE HPR ⊢
  have LN := Lib.hid hN
  clear hN
  generalize upto (ofKind key field 1) (fun x => x.elem) l = PE at *
  generalize upto (ofKind key field 2) (fun x => x.elem) l = PR at *
  generalize upto (ofKind key field 3) (fun x => x.n) l = PC at *
  generalize vcounts l key field = VC at *
  generalize vtexts l key field 1 = T1 at *
  generalize vtexts l key field 2 = T2 at *
  have hsV : Hid (Nm.Plain.fits (Nm.Plain.tot VC) → Nm.Plain.sumE (Nm.Plain.tot VC) = 0) := Lib.hid (fun h => by unfold Nm.Plain.sumE; rw [if_pos h])
  have hsN : Hid (¬ Nm.Plain.fits (Nm.Plain.tot VC) → Nm.Plain.sumE (Nm.Plain.tot VC) = 5) := Lib.hid (fun h => by unfold Nm.Plain.sumE; rw [if_neg h])
  generalize Nm.Plain.sumV (Nm.Plain.tot VC) = sV at *
  generalize Nm.Plain.sumE (Nm.Plain.tot VC) = sE at *
  generalize Nm.Plain.tot VC = TT at *
  have HB1 : Hid (Below w.heap.size w (w.alloc (.cells #[.slice none 0 0, .slice none 0 0, .int .i64 0, .bool false] 53))) := Lib.hid ((Below.refl _ _).alloc (Nat.le_refl _) _)
  have Z1 : Hid ((w.alloc (.cells #[.slice none 0 0, .slice none 0 0, .int .i64 0, .bool false] 53)).heap.size = w.heap.size + 1) := Lib.hid (by simp)
  have C1 : Hid ((w.alloc (.cells #[.slice none 0 0, .slice none 0 0, .int .i64 0, .bool false] 53)).heap[w.heap.size]? = some (.cells #[.slice none 0 0, .slice none 0 0, .int .i64 0, .bool false] 53 (0, 0))) := Lib.hid (heap_alloc_new w _)
  go_enter Tryz.func17, Tryz.ntmps17
  go_upto_region 1 with fail
  generalize (w.alloc (.cells #[.slice none 0 0, .slice none 0 0, .int .i64 0, .bool false] 53)) = w1 at *
  go_wp2_with fail
  go_loopw [7, 8, 9, 11, 16] (fun z7 z8 z9 _ i wr => ∃ k : Nat, k ≤ n ∧ i = .int .i64 k ∧ OwnsT w1.heap.size wr z7 (PE k) ∧ OwnsT w1.heap.size wr z8 (PR k) ∧ OwnE LI64 w1.heap.size wr z9 (PC k) ∧ ApartV z7 z8 ∧ Below w1.heap.size w1 wr) (fun _ _ _ _ i _ => n - (intOf i).toNat)
  case atStart => exact ⟨0, Nat.zero_le _, rfl, by rw [P0E.out]; exact OwnsT.nil _ _, by rw [P0R.out]; exact OwnsT.nil _ _, by rw [P0C.out]; exact OwnE.nil _ _, .inl rfl, Below.refl _ _⟩
  case round =>
    obtain ⟨k, hk, rfl, h7, h8, h9, hap, hb⟩ := hrel
    have O7 := Lib.hid h7
    have O8 := Lib.hid h8
    have O9 := Lib.hid h9
    have AP := Lib.hid hap
    have HB := Lib.hid hb
    have HBW : Hid (Below w.heap.size w wr) := Lib.hid (HB1.out.trans (hb.mono HB1.out.size))
    have HLE := Lib.hid (HLE0.out k)
    have HLR := Lib.hid (HLR0.out k)
    have HLC := Lib.hid (HLC0.out k)
    clear h7 h8 h9 hap hb
    by_cases hlt : k < n
    · have PYE := Lib.hid (PYE0.out k hlt)
      have PYR := Lib.hid (PYR0.out k hlt)
      have PYC := Lib.hid (PYC0.out k hlt)
      have PNE := Lib.hid (PNE0.out k hlt)
      have PNR := Lib.hid (PNR0.out k hlt)
      have PNC := Lib.hid (PNC0.out k hlt)
      obtain ⟨b, o, c, hv, -, -, -, hc⟩ := items_spot (HS.out.below HBW.out) (by rw [LN.out]; omega)
      rw [LN.out] at hv
      simp only [Value.slice.injEq] at hv
      obtain ⟨rfl, -, rfl⟩ := hv
      obtain ⟨c0, c1, c2, c3, c4, c5, c6, c7⟩ := hc k (by rw [LN.out]; exact hlt)
      clear hc
      have t1 := text_eq (l.getD k default).key key
      have t2 := text_eq (l.getD k default).field field
      generalize l.getD k default = x at *
      replace O7 := Lib.hid (O7.out.alloc (.cells #[.string (bt x.key), .string (bt x.field), .int .i64 x.kind, .string (bt x.elem), .int .i64 x.n, .int .i64 x.dot.node, .int .i64 x.dot.seq, .int .i64 x.dot.pos] 38))
      replace O8 := Lib.hid (O8.out.alloc (.cells #[.string (bt x.key), .string (bt x.field), .int .i64 x.kind, .string (bt x.elem), .int .i64 x.n, .int .i64 x.dot.node, .int .i64 x.dot.seq, .int .i64 x.dot.pos] 38))
      replace O9 := Lib.hid (O9.out.alloc (.cells #[.string (bt x.key), .string (bt x.field), .int .i64 x.kind, .string (bt x.elem), .int .i64 x.n, .int .i64 x.dot.node, .int .i64 x.dot.seq, .int .i64 x.dot.pos] 38))
      replace HB := Lib.hid (HB.out.alloc HB.out.size (.cells #[.string (bt x.key), .string (bt x.field), .int .i64 x.kind, .string (bt x.elem), .int .i64 x.n, .int .i64 x.dot.node, .int .i64 x.dot.seq, .int .i64 x.dot.pos] 38))
      have IB : Hid (ItemAt (wr.alloc (.cells #[.string (bt x.key), .string (bt x.field), .int .i64 x.kind, .string (bt x.elem), .int .i64 x.n, .int .i64 x.dot.node, .int .i64 x.dot.seq, .int .i64 x.dot.pos] 38)) wr.heap.size 0 x) := Lib.hid ⟨by simp, by simp, by simp, by simp, by simp, by simp, by simp, by simp⟩
      go_upto_region 6 with fail
      clear c0 c1 c2 c3 c4 c5 c6 c7 HBW
      generalize (wr.alloc (.cells #[.string (bt x.key), .string (bt x.field), .int .i64 x.kind, .string (bt x.elem), .int .i64 x.n, .int .i64 x.dot.node, .int .i64 x.dot.seq, .int .i64 x.dot.pos] 38)) = wb at *
      obtain ⟨d0, d1, d2, d3, d4, d5, d6, d7⟩ := IB.out
      simp only [Nat.zero_add] at d1 d2 d3 d4 d5 d6 d7
      by_cases h1 : x.key = key
      rotate_left
      · rw [decide_eq_false h1] at t1
        have HXE := Lib.hid (PNE.out (kind_no1 h1))
        have HXR := Lib.hid (PNR.out (kind_no1 h1))
        have HXC := Lib.hid (PNC.out (kind_no1 h1))
        clear h1
        go_wp2_with fail
        go_roundw
        case rel => exact ⟨k + 1, by omega, by go_num, by rw [HXE.out]; exact O7.out, by rw [HXR.out]; exact O8.out, by rw [HXC.out]; exact O9.out, AP.out, HB.out⟩
        case measure => simp [intOf]; omega
      rw [decide_eq_true h1] at t1
      by_cases h2 : x.field = field
      rotate_left
      · rw [decide_eq_false h2] at t2
        have HXE := Lib.hid (PNE.out (kind_no2 h2))
        have HXR := Lib.hid (PNR.out (kind_no2 h2))
        have HXC := Lib.hid (PNC.out (kind_no2 h2))
        clear h1 h2
        go_wp2_with fail
        go_roundw
        case rel => exact ⟨k + 1, by omega, by go_num, by rw [HXE.out]; exact O7.out, by rw [HXR.out]; exact O8.out, by rw [HXC.out]; exact O9.out, AP.out, HB.out⟩
        case measure => simp [intOf]; omega
      rw [decide_eq_true h2] at t2
      by_cases q1 : x.kind = 1
      · skip
        have e1 : (x.kind == 1) = true := beq_iff_eq.2 q1
        have HXE := Lib.hid (PYE.out (kind_yes h1 h2 q1))
        have HXR := Lib.hid (PNR.out (kind_no3 (by rw [q1]; decide)))
        have HXC := Lib.hid (PNC.out (kind_no3 (by rw [q1]; decide)))
        clear h1 h2 q1
        have S1 := Lib.hid (fun (W : World) => SeqT.one W x.elem)
        unfold tv at S1
        go_wp2_with (at_builtin; refine wpList_append_texts rfl (.tmp 34) (.tmp 37) rfl w1.heap.size rfl (O7.out.alloc _) rfl (S1.out _) (by have := HLE.out; simp at *; omega) (by have := HB.out.size; simp; omega) ?_)
        intro v' w2 ho' hgr hat
        have N := Lib.hid ho'
        rw [← HXE.out] at N
        have G2 : Hid (Below w1.heap.size w1 w2) := Lib.hid ((HB.out.alloc HB.out.size _).grown hgr (by have := HB.out.size; simp; omega) (fun j hj => (O7.out.lt j hj).1))
        have N8 := Lib.hid ((O8.out.alloc _).kept hgr AP.out.symm)
        rw [← HXR.out] at N8
        have N9 := Lib.hid ((O9.out.alloc _).keptT (O7.out.alloc _) hgr)
        rw [← HXC.out] at N9
        have AP2 := Lib.hid (apart_next O8.out AP.out.symm hat (by first | exact Nat.le_refl _ | omega | (simp <;> omega))).symm
        clear ho' hgr hat
        go_wp2_with fail
        go_roundw
        case rel => exact ⟨k + 1, by omega, by go_num, N.out, N8.out, N9.out, AP2.out, G2.out⟩
        case measure => simp [intOf]; omega
      by_cases q2 : x.kind = 2
      · skip
        have e2 : (x.kind == 2) = true := beq_iff_eq.2 q2
        have e1 : (x.kind == 1) = false := beq_false_of_ne q1
        have HXE := Lib.hid (PNE.out (kind_no3 (by rw [q2]; decide)))
        have HXR := Lib.hid (PYR.out (kind_yes h1 h2 q2))
        have HXC := Lib.hid (PNC.out (kind_no3 (by rw [q2]; decide)))
        clear h1 h2 q1 q2
        have S1 := Lib.hid (fun (W : World) => SeqT.one W x.elem)
        unfold tv at S1
        go_wp2_with (at_builtin; refine wpList_append_texts rfl (.tmp 41) (.tmp 44) rfl w1.heap.size rfl (O8.out.alloc _) rfl (S1.out _) (by have := HLR.out; simp at *; omega) (by have := HB.out.size; simp; omega) ?_)
        intro v' w2 ho' hgr hat
        have N := Lib.hid ho'
        rw [← HXR.out] at N
        have G2 : Hid (Below w1.heap.size w1 w2) := Lib.hid ((HB.out.alloc HB.out.size _).grown hgr (by have := HB.out.size; simp; omega) (fun j hj => (O8.out.lt j hj).1))
        have N7 := Lib.hid ((O7.out.alloc _).kept hgr AP.out)
        rw [← HXE.out] at N7
        have N9 := Lib.hid ((O9.out.alloc _).keptT (O8.out.alloc _) hgr)
        rw [← HXC.out] at N9
        have AP2 := Lib.hid (apart_next O7.out AP.out hat (by first | exact Nat.le_refl _ | omega | (simp <;> omega)))
        clear ho' hgr hat
        go_wp2_with fail
        go_roundw
        case rel => exact ⟨k + 1, by omega, by go_num, N7.out, N.out, N9.out, AP2.out, G2.out⟩
        case measure => simp [intOf]; omega
      by_cases q3 : x.kind = 3
      · skip
        have e3 : (x.kind == 3) = true := beq_iff_eq.2 q3
        have e1 : (x.kind == 1) = false := beq_false_of_ne q1
        have e2 : (x.kind == 2) = false := beq_false_of_ne q2
        have HXE := Lib.hid (PNE.out (kind_no3 (by rw [q3]; decide)))
        have HXR := Lib.hid (PNR.out (kind_no3 (by rw [q3]; decide)))
        have HXC := Lib.hid (PYC.out (kind_yes h1 h2 q3))
        clear h1 h2 q1 q2 q3
        have S1 := Lib.hid (fun (W : World) => one_i64 W x.n)
        go_wp2_with (at_builtin; refine wpList_append_el LI64 rfl (.tmp 48) (.tmp 51) rfl w1.heap.size rfl (O9.out.alloc _) rfl (S1.out _) (fun _ _ h => h) (by have := HLC.out; simp at *; omega) (by have := HB.out.size; simp; omega) ?_)
        intro v' w2 ho' hgr hat
        have N := Lib.hid ho'
        rw [← HXC.out] at N
        have G2 : Hid (Below w1.heap.size w1 w2) := Lib.hid ((HB.out.alloc HB.out.size _).grown hgr (by have := HB.out.size; simp; omega) (fun j hj => (O9.out.lt j hj).1))
        have N7 := Lib.hid ((O7.out.alloc _).keptN (O9.out.alloc _) hgr)
        rw [← HXE.out] at N7
        have N8 := Lib.hid ((O8.out.alloc _).keptN (O9.out.alloc _) hgr)
        rw [← HXR.out] at N8
        have AP2 := AP
        clear ho' hgr hat
        go_wp2_with fail
        go_roundw
        case rel => exact ⟨k + 1, by omega, by go_num, N7.out, N8.out, N.out, AP2.out, G2.out⟩
        case measure => simp [intOf]; omega
      have e1 : (x.kind == 1) = false := beq_false_of_ne q1
      have e2 : (x.kind == 2) = false := beq_false_of_ne q2
      have e3 : (x.kind == 3) = false := beq_false_of_ne q3
      have HXE := Lib.hid (PNE.out (kind_no3 q1))
      have HXR := Lib.hid (PNR.out (kind_no3 q2))
      have HXC := Lib.hid (PNC.out (kind_no3 q3))
      clear h1 h2 q1 q2 q3
      go_wp2_with fail
      go_roundw
      case rel => exact ⟨k + 1, by omega, by go_num, by rw [HXE.out]; exact O7.out, by rw [HXR.out]; exact O8.out, by rw [HXC.out]; exact O9.out, AP.out, HB.out⟩
      case measure => simp [intOf]; omega
    · obtain rfl : k = n := by omega
      rw [HPC.out] at O9
      have K := KT.out wr _ O9.out.seq
      have L7 := Lib.hid O7.out.lt
      have L8 := Lib.hid O8.out.lt
      have K7 := Lib.hid (vonce_any O7.out (by have := HLE.out; omega))
      rw [HPE.out] at K7
      have K8 := Lib.hid (fun (W : World) (hg : wr.grownBy W (Value.ownBlock _)) => vonce_any (O8.out.kept hg AP.out.symm) (by have := HLR.out; omega))
      rw [HPR.out] at K8
      have AP7 := Lib.hid AP.out
      unfold ApartV at AP7
      obtain ⟨a2, c2, rfl, -⟩ := O9.out.parts
      obtain ⟨a7, c7, rfl, -⟩ := O7.out.parts
      obtain ⟨a8, c8, rfl, -⟩ := O8.out.parts
      clear O7 O8 O9 AP
      generalize (PE k).length = n7 at *
      generalize (PR k).length = n8 at *
      generalize Value.ownBlock (.slice a7 n7 c7) = r7 at *
      generalize Value.ownBlock (.slice a8 n8 c8) = r8 at *
      generalize VC.length = n9 at *
      go_wp2_with fail
      refine K.mono ?_
      rintro e w2 ⟨rfl, hw⟩
      subst hw
      clear K
      go_upto_region 16 with fail
      go_wp2_with fail
      refine K7.out.mono ?_
      rintro e w3 ⟨v3, rfl, hs, hg⟩
      have B3 := Lib.hid (HB.out.grown hg HB.out.size (fun j hj => (L7.out j hj).1))
      have K8' := Lib.hid (K8.out w3 hg)
      have S3 := Lib.hid hs
      obtain ⟨a3, c3, rfl, -⟩ := hs.1.parts
      clear hs hg K7 K8
      generalize T1.length = m1 at *
      go_wp2_with fail
      refine K8'.out.mono ?_
      rintro e w4 ⟨v4, rfl, hs, hg⟩
      have B4 := Lib.hid (B3.out.grown hg B3.out.size (fun j hj => (L8.out j hj).1))
      have S3' := Lib.hid (S3.out.2 w4 r8 hg AP7.out)
      have S4 := Lib.hid hs.1
      obtain ⟨a4, c4, rfl, -⟩ := hs.1.parts
      have G4 := Lib.hid (HB1.out.trans (B4.out.mono HB1.out.size))
      clear hs hg K8' S3
      generalize T2.length = m2 at *
      have CB := (B4.out.block w.heap.size (by rw [Z1.out]; omega)).trans C1.out
      have z0 := cell_of_row w4 w.heap.size 0 _ _ _ CB
      have z1 := cell_of_row w4 w.heap.size 1 _ _ _ CB
      have z2 := cell_of_row w4 w.heap.size 2 _ _ _ CB
      have z3 := cell_of_row w4 w.heap.size 3 _ _ _ CB
      have f0 : w4.frozen? ⟨w.heap.size, 0, none⟩ = false := by unfold World.frozen?; rw [CB]; simp
      have f1 : w4.frozen? ⟨w.heap.size, 1, none⟩ = false := by unfold World.frozen?; rw [CB]; simp
      have f2 : w4.frozen? ⟨w.heap.size, 2, none⟩ = false := by unfold World.frozen?; rw [CB]; simp
      have f3 : w4.frozen? ⟨w.heap.size, 3, none⟩ = false := by unfold World.frozen?; rw [CB]; simp
      simp only [List.getElem?_toArray, List.getElem?_cons_zero, List.getElem?_cons_succ] at z0 z1 z2 z3
      have FIN : Hid (∀ ov : Bool, (set4 w4 w.heap.size (.slice a3 m1 c3) (.slice a4 m2 c4) (.int .i64 sV) (.bool ov)).cell? ⟨w.heap.size, 0, none⟩ = some (.slice a3 m1 c3) ∧ (set4 w4 w.heap.size (.slice a3 m1 c3) (.slice a4 m2 c4) (.int .i64 sV) (.bool ov)).cell? ⟨w.heap.size, 1, none⟩ = some (.slice a4 m2 c4) ∧ (set4 w4 w.heap.size (.slice a3 m1 c3) (.slice a4 m2 c4) (.int .i64 sV) (.bool ov)).cell? ⟨w.heap.size, 2, none⟩ = some (.int .i64 sV) ∧ (set4 w4 w.heap.size (.slice a3 m1 c3) (.slice a4 m2 c4) (.int .i64 sV) (.bool ov)).cell? ⟨w.heap.size, 3, none⟩ = some (.bool ov)) := Lib.hid (fun ov => set4_cells z0 z1 z2 z3)
      have SQ3 : Hid (∀ ov : Bool, SeqT (set4 w4 w.heap.size (.slice a3 m1 c3) (.slice a4 m2 c4) (.int .i64 sV) (.bool ov)) (.slice a3 m1 c3) T1) := Lib.hid (fun ov => set4_seq S3'.out z0 z1 z2 z3 (fun s h => by cases h) (fun s h => by cases h) (fun s h => by cases h) (fun s h => by cases h))
      have SQ4 : Hid (∀ ov : Bool, SeqT (set4 w4 w.heap.size (.slice a3 m1 c3) (.slice a4 m2 c4) (.int .i64 sV) (.bool ov)) (.slice a4 m2 c4) T2) := Lib.hid (fun ov => set4_seq S4.out z0 z1 z2 z3 (fun s h => by cases h) (fun s h => by cases h) (fun s h => by cases h) (fun s h => by cases h))
      have GQ : Hid (∀ ov : Bool, Below w.heap.size w (set4 w4 w.heap.size (.slice a3 m1 c3) (.slice a4 m2 c4) (.int .i64 sV) (.bool ov))) := Lib.hid (fun ov => set4_below G4.out (Nat.le_refl _))
      clear CB
      by_cases hfit : Nm.Plain.fits TT
      · have e5 := hsV.out hfit
        subst e5
        have hd : decide (¬ Nm.Plain.fits TT) = false := by simp [hfit]
        have HD := Lib.hid hd
        clear hd hfit
        go_wp2_with fail
        obtain ⟨q0, q1, q2, q3⟩ := FIN.out false
        unfold set4 at q0 q1 q2 q3
        refine bodyPost_ret (v := .agg #[.slice a3 m1 c3, .slice a4 m2 c4, .int .i64 sV, .bool false]) (by simp [results, Tryz.results17, go_sem, q0, q1, q2, q3]) rfl ⟨_, rfl, ⟨a3, m1, c3, a4, m2, c4, by rw [HD.out], SQ3.out false, SQ4.out false⟩, GQ.out false⟩
      · have e5 := hsN.out hfit
        subst e5
        have hd : decide (¬ Nm.Plain.fits TT) = true := by simp [hfit]
        have HD := Lib.hid hd
        clear hd hfit
        go_wp2_with fail
        obtain ⟨q0, q1, q2, q3⟩ := FIN.out true
        unfold set4 at q0 q1 q2 q3
        refine bodyPost_ret (v := .agg #[.slice a3 m1 c3, .slice a4 m2 c4, .int .i64 sV, .bool true]) (by simp [results, Tryz.results17, go_sem, q0, q1, q2, q3]) rfl ⟨_, rfl, ⟨a3, m1, c3, a4, m2, c4, by rw [HD.out], SQ3.out true, SQ4.out true⟩, GQ.out true⟩

end Go.Proofs.YtkmiodpaanohoaaGreat
