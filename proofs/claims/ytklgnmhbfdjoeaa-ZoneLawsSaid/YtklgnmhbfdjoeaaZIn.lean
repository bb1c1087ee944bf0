/- What the program's own Union, Covers, Within, Without, Inter of texts leave. -/
import Derived.Test.YtklgnmhbfdjoeaaZNorm
namespace Go.Proofs.Ytklgnmhbfdjoeaa
open Go.RowKit Plain
set_option linter.unusedVariables false

/-- two slices side by side, as slices.Concat takes them -/
theorem two_cells (w : World) (u v : Value) : (w.alloc (.cells #[u, v] 22)).cell? ⟨w.heap.size, 0, none⟩ = some u ∧ (w.alloc (.cells #[u, v] 22)).cell? ⟨w.heap.size, 1, none⟩ = some v := ⟨by simp, by simp⟩
theorem concat_made {u v : Value} {xs ys : List Txt} {w : World} (hu : SeqT w u xs) (hv : SeqT w v ys) (hx : xs.length ≤ 1000000) (hy : ys.length ≤ 1000000) :
    Calls Try.prog 34 #[.slice (some ⟨w.heap.size, 0, none⟩) 2 2] (w.alloc (.cells #[u, v] 22)) fun e w' => ∃ z, e = .returned z ∧ OwnsT w.heap.size w' z (xs ++ ys) ∧ Below w.heap.size w w' := by
  have hb := (Below.refl w.heap.size w).alloc (Nat.le_refl _) (.cells #[u, v] 22)
  obtain ⟨c0, c1⟩ := two_cells w u v
  refine (concatT_two w.heap.size 2 (w.alloc (.cells #[u, v] 22)) c0 c1 (hu.below hb) (hv.below hb) (by omega)).mono ?_
  rintro e w' ⟨z, he, ho, hb'⟩
  exact ⟨z, he, ho.mono hb.size, hb.trans (hb'.mono hb.size)⟩

set_option maxRecDepth 100000 in
set_option maxHeartbeats 1000000 in
/-- Union -/
theorem zunion_any {u v : Value} {xs ys : List Txt} {w : World} (hu : SeqT w u xs) (hv : SeqT w v ys) (hx : xs.length ≤ 400000) (hy : ys.length ≤ 400000) :
    Calls Try.prog 14 #[u, v] w (GivesE w (nV (xs ++ ys)) (nE (xs ++ ys))) := by
  have K1 := concat_made hu hv (by omega) (by omega)
  obtain ⟨a, cap, rfl, -⟩ := hu.parts
  obtain ⟨a', cap', rfl, -⟩ := hv.parts
  have hl : (xs ++ ys).length ≤ 1000000 := by rw [List.length_append]; omega
  clear hu hv hx hy
  generalize xs ++ ys = zs at *
  obtain ⟨n, hN⟩ : ∃ n, zs.length = n := ⟨_, rfl⟩
  have LN := Lib.hid hN
  have KN := Lib.hid (fun (W : World) (x : Value) (h : SeqT W x zs) => znorm_any h hl)
  clear hN hl
  generalize nV zs = V at *
  generalize nE zs = E at *
  generalize xs.length = n1 at *
  generalize ys.length = n2 at *
  go_enter Try.func14, Try.ntmps14
  go_wp2_with fail
  refine K1.mono ?_
  rintro e w2 ⟨v2, rfl, ho, hb⟩
  have G2 := Lib.hid hb
  have K2 := KN.out _ _ ho.seq
  obtain ⟨a2, c2, rfl, g1, g2, -⟩ := ho.at n LN.out
  clear ho hb K1
  go_wp2_with fail
  refine K2.mono ?_
  rintro e w3 ⟨v3, rfl, hs, hb3⟩
  have G3 : Hid (Below w.heap.size w w3) := Lib.hid (G2.out.trans (hb3.mono G2.out.size))
  have O3 := Lib.hid hs
  obtain ⟨a3, c3, rfl, -⟩ := hs.parts
  generalize V.length = n3 at *
  clear hb3 hs K2
  go_wp2_with fail
  go_ret2
  exact ⟨_, rfl, O3.out, G3.out⟩

set_option maxRecDepth 100000 in
set_option maxHeartbeats 1000000 in
/-- Covers -/
theorem zcovers_any {v : Value} {xs : List Txt} {w : World} (hv : SeqT w v xs) (hx : xs.length ≤ 1000000) (s : Txt) :
    Calls Try.prog 21 #[v, .string (bt s)] w (GivesB w (covers xs s)) := by
  have hb := (Below.refl w.heap.size w).alloc (Nat.le_refl _) (.cells #[.string (bt s)] 9)
  have hc : (w.alloc (.cells #[.string (bt s)] 9)).cell? ⟨w.heap.size, 0, none⟩ = some (.string (bt s)) := by simp
  have hlt : w.heap.size < (w.alloc (.cells #[.string (bt s)] 9)).heap.size := by simp
  have K1 := contains_texts (hv.below hb) hx (fun x => beg s x) 41 #[.pointer (some ⟨w.heap.size, 0, none⟩)] enters41 (fun W x hW => gives41 x s w.heap.size W ((hW.cell (p := ⟨w.heap.size, 0, none⟩) hlt).trans hc))
  rw [show (xs.any fun x => beg s x) = covers xs s from rfl] at K1
  have G := Lib.hid hb
  obtain ⟨a, cap, rfl, -⟩ := hv.parts
  clear hv hb hc hlt
  generalize covers xs s = r at *
  generalize bt s = S at *
  go_enter Try.func21, Try.ntmps21
  go_wp2_with fail
  refine K1.mono ?_
  rintro e w' ⟨rfl, q, rfl⟩
  have G2 := Lib.hid (below_drewN G.out q)
  go_wp2_with fail
  go_ret
  exact ⟨rfl, G2.out⟩

/-- heads of ys in a variable of the call's own: what the functions that hold it read in every later world -/
structure Held (w wb : World) (k : Nat) (zv : Value) (ys : List Txt) : Prop where
  low : Below w.heap.size w wb
  lt : k < wb.heap.size
  cell : wb.cell? ⟨k, 0, none⟩ = some zv
  seq : SeqT wb zv (least ys)
theorem held_of {w w2 : World} {zv : Value} {ys : List Txt} (hb : Below w.heap.size w w2) (hs : SeqT w2 zv (least ys)) : Held w (w2.alloc (.cells #[zv] 22)) w2.heap.size zv ys :=
  ⟨hb.alloc hb.size _, by simp, by simp, hs.below_alloc _⟩
theorem Held.later {w wb W : World} {k : Nat} {zv : Value} {ys : List Txt} (h : Held w wb k zv ys) (hb : Below wb.heap.size wb W) : W.cell? ⟨k, 0, none⟩ = some zv ∧ SeqT W zv (least ys) :=
  ⟨(hb.cell (p := ⟨k, 0, none⟩) h.lt).trans h.cell, h.seq.below hb⟩
theorem held38 {w wb : World} {k : Nat} {zv : Value} {ys : List Txt} (h : Held w wb k zv ys) (hy : ys.length ≤ 1000000) (W : World) (x : Txt) (hb : Below wb.heap.size wb W) : FnGives Try.prog 38 #[.pointer (some ⟨k, 0, none⟩)] #[tv x] (.bool (covers ys x)) W := by
  have := gives38 x k W (h.later hb).1 (h.later hb).2 (rising_once _) (apart_least ys) (by have := least_len ys; omega)
  rwa [covers_least] at this
theorem held40 {w wb : World} {k : Nat} {zv : Value} {ys : List Txt} (h : Held w wb k zv ys) (hy : ys.length ≤ 1000000) (W : World) (x : Txt) (hb : Below wb.heap.size wb W) : FnGives Try.prog 40 #[.pointer (some ⟨k, 0, none⟩)] #[tv x] (.bool (!covers ys x)) W := by
  have := gives40 x k W (h.later hb).1 (h.later hb).2 (rising_once _) (apart_least ys) (by have := least_len ys; omega)
  rwa [covers_least] at this
theorem held49 {w wb : World} {k : Nat} {zv : Value} {ys : List Txt} (h : Held w wb k zv ys) (hy : ys.length ≤ 1000000) (W : World) (x : Txt) (hb : Below wb.heap.size wb W) : FnGives Try.prog 49 #[.pointer (some ⟨k, 0, none⟩)] #[tv x] (.bool (!covers ys x)) W := by
  have := gives49 x k W (h.later hb).1 (h.later hb).2 (rising_once _) (apart_least ys) (by have := least_len ys; omega)
  rwa [covers_least] at this
theorem any_within (xs ys : List Txt) : (xs.any fun s => !covers ys s) = !withinZ xs ys := by
  unfold withinZ
  rw [List.all_eq_not_any_not, Bool.not_not]
theorem filter_once (p : Txt → Bool) (xs : List Txt) : (once xs).filter p = once (xs.filter p) := rising_ext ((rising_once xs).filter p) (rising_once _) fun t => by rw [List.mem_filter, mem_once, mem_once, List.mem_filter]

set_option maxRecDepth 100000 in
set_option maxHeartbeats 1000000 in
/-- Within -/
theorem zwithin_any {u v : Value} {xs ys : List Txt} {w : World} (hu : SeqT w u xs) (hv : SeqT w v ys) (hx : xs.length ≤ 1000000) (hy : ys.length ≤ 1000000) :
    Calls Try.prog 19 #[u, v] w (GivesB w (withinZ xs ys)) := by
  have K1 := zheads_any hv hy
  have KC := Lib.hid (fun (w2 : World) (zv : Value) (hb : Below w.heap.size w w2) (hs : SeqT w2 zv (least ys)) =>
    contains_texts (hu.below (held_of hb hs).low) hx (fun s => !covers ys s) 40 #[.pointer (some ⟨w2.heap.size, 0, none⟩)] enters40 (fun W x hW => held40 (held_of hb hs) hy W x hW))
  have HW := Lib.hid (any_within xs ys)
  obtain ⟨a, cap, rfl, -⟩ := hu.parts
  obtain ⟨a', cap', rfl, -⟩ := hv.parts
  generalize withinZ xs ys = r at *
  clear hu hv
  go_enter Try.func19, Try.ntmps19
  go_wp2_with fail
  refine K1.mono ?_
  rintro e w2 ⟨v2, rfl, ho, hb⟩
  have K2 := KC.out w2 v2 hb ho.seq
  rw [HW.out] at K2
  have HH := Lib.hid (held_of hb ho.seq)
  obtain ⟨a2, c2, rfl, -, -, -⟩ := ho.at _ rfl
  generalize (least ys).length = m at *
  clear ho hb K1 KC
  go_wp2_with fail
  refine K2.mono ?_
  rintro e w3 ⟨rfl, q, rfl⟩
  have G := Lib.hid (below_drewN HH.out.low q)
  go_wp2_with fail
  go_ret
  exact ⟨by simp, G.out⟩

set_option maxRecDepth 100000 in
set_option maxHeartbeats 1000000 in
/-- Without -/
theorem zwithout_any {u v : Value} {xs ys : List Txt} {w : World} (hu : SeqT w u xs) (hv : SeqT w v ys) (hx : xs.length ≤ 1000000) (hy : ys.length ≤ 1000000) :
    Calls Try.prog 17 #[u, v] w (GivesT w (without xs ys)) := by
  have K1 := zheads_any hv hy
  have KC := Lib.hid (fun (w2 : World) (zv : Value) (hb : Below w.heap.size w w2) (hs : SeqT w2 zv (least ys)) => zrising_any (hu.below (held_of hb hs).low) hx)
  have HW : Hid ((once xs).filter (fun s => !covers ys s) = without xs ys) := Lib.hid (filter_once _ _)
  have hol := once_len xs
  obtain ⟨a, cap, rfl, -⟩ := hu.parts
  obtain ⟨a', cap', rfl, -⟩ := hv.parts
  generalize without xs ys = r at *
  clear hu hv
  go_enter Try.func17, Try.ntmps17
  go_wp2_with fail
  refine K1.mono ?_
  rintro e w2 ⟨v2, rfl, ho, hb⟩
  have K2 := KC.out w2 v2 hb ho.seq
  have HH := Lib.hid (held_of hb ho.seq)
  obtain ⟨a2, c2, rfl, -, -, -⟩ := ho.at _ rfl
  generalize (least ys).length = m at *
  clear ho hb K1 KC
  go_wp2_with fail
  refine K2.mono ?_
  rintro e w3 ⟨v3, rfl, hr, hb3⟩
  have K3 := delete_texts hr hb3 hb3.size (by omega) (fun s => covers ys s) 38 #[.pointer (some ⟨w2.heap.size, 0, none⟩)] enters38 (fun W x hW => held38 HH.out hy W x hW)
  rw [HW.out] at K3
  obtain ⟨a3, c3, rfl, -⟩ := hr.seq.parts
  generalize (once xs).length = m3 at *
  clear hr hb3 K2
  go_wp2_with fail
  refine K3.mono ?_
  rintro e w4 ⟨v4, rfl, hr, hb4⟩
  have G : Hid (Below w.heap.size w w4) := Lib.hid (HH.out.low.trans (hb4.mono HH.out.low.size))
  have O := Lib.hid hr.seq
  obtain ⟨a4, c4, rfl, -⟩ := hr.seq.parts
  generalize r.length = m4 at *
  clear hr hb4 K3
  go_wp2_with fail
  go_ret
  exact ⟨_, rfl, O.out, G.out⟩

set_option maxRecDepth 100000 in
set_option maxHeartbeats 1000000 in
/-- under -/
theorem zunder_any {u v : Value} {xs ys : List Txt} {w : World} (hu : SeqT w u xs) (hv : SeqT w v ys) (hx : xs.length ≤ 1000000) (hy : ys.length ≤ 1000000) :
    Calls Try.prog 36 #[u, v] w (GivesT w (xs.filter (covers ys))) := by
  have K1 := zheads_any hv hy
  have KC := Lib.hid (fun (w2 : World) (zv : Value) (hb : Below w.heap.size w w2) (hs : SeqT w2 zv (least ys)) => clone_texts (hu.below (held_of hb hs).low) hx)
  have HW : Hid (xs.filter (fun s => !(fun s => !covers ys s) s) = xs.filter (covers ys)) := Lib.hid (by simp)
  obtain ⟨a, cap, rfl, -⟩ := hu.parts
  obtain ⟨a', cap', rfl, -⟩ := hv.parts
  clear hu hv
  go_enter Try.func36, Try.ntmps36
  go_wp2_with fail
  refine K1.mono ?_
  rintro e w2 ⟨v2, rfl, ho, hb⟩
  have K2 := KC.out w2 v2 hb ho.seq
  have HH := Lib.hid (held_of hb ho.seq)
  obtain ⟨a2, c2, rfl, -, -, -⟩ := ho.at _ rfl
  generalize (least ys).length = m at *
  clear ho hb K1 KC
  go_wp2_with fail
  refine K2.mono ?_
  rintro e w3 ⟨v3, rfl, hr, hb3⟩
  have K3 := delete_texts (RowT.of_owns hr) hb3 hb3.size hx (fun s => !covers ys s) 49 #[.pointer (some ⟨w2.heap.size, 0, none⟩)] enters49 (fun W x hW => held49 HH.out hy W x hW)
  rw [HW.out] at K3
  obtain ⟨a3, c3, rfl, -⟩ := hr.seq.parts
  generalize xs.filter (covers ys) = r at *
  clear hr hb3 K2 HW
  generalize xs.length = m3 at *
  go_wp2_with fail
  refine K3.mono ?_
  rintro e w4 ⟨v4, rfl, hr, hb4⟩
  have G : Hid (Below w.heap.size w w4) := Lib.hid (HH.out.low.trans (hb4.mono HH.out.low.size))
  have O := Lib.hid hr.seq
  obtain ⟨a4, c4, rfl, -⟩ := hr.seq.parts
  generalize r.length = m4 at *
  clear hr hb4 K3
  go_wp2_with fail
  go_ret
  exact ⟨_, rfl, O.out, G.out⟩

set_option maxRecDepth 100000 in
set_option maxHeartbeats 1000000 in
/-- Inter -/
theorem zinter_any {u v : Value} {xs ys : List Txt} {w : World} (hu : SeqT w u xs) (hv : SeqT w v ys) (hx : xs.length ≤ 400000) (hy : ys.length ≤ 400000) :
    Calls Try.prog 15 #[u, v] w (GivesT w (inter xs ys)) := by
  have K1 := zunder_any hu hv (by omega) (by omega)
  have KB := Lib.hid (fun (W : World) (hb : Below w.heap.size w W) => zunder_any (hv.below hb) (hu.below hb) (by omega : ys.length ≤ 1000000) (by omega : xs.length ≤ 1000000))
  have HI : Hid (inter xs ys = once (xs.filter (covers ys) ++ ys.filter (covers xs))) := Lib.hid rfl
  have h1 := List.length_filter_le (covers ys) xs
  have h2 := List.length_filter_le (covers xs) ys
  have h3 := inter_len xs ys
  generalize inter xs ys = r at *
  generalize xs.filter (covers ys) = p at *
  generalize ys.filter (covers xs) = s at *
  obtain ⟨a, cap, rfl, -⟩ := hu.parts
  obtain ⟨a', cap', rfl, -⟩ := hv.parts
  have hl1 : p.length ≤ 400000 := by omega
  have hl2 : s.length ≤ 400000 := by omega
  have KZ := Lib.hid (fun (W : World) (x : Value) (h : SeqT W x (p ++ s)) => zrising_any h (by rw [List.length_append]; omega))
  rw [← HI.out] at KZ
  have KCC := Lib.hid (fun (W : World) (x y : Value) (hx : SeqT W x p) (hy : SeqT W y s) => concat_made hx hy (by omega) (by omega))
  obtain ⟨n, hN⟩ : ∃ n, (p ++ s).length = n := ⟨_, rfl⟩
  have LN := Lib.hid hN
  clear hu hv h1 h2 h3 hl1 hl2 hx hy HI hN
  generalize p ++ s = ps at *
  generalize xs.length = n1 at *
  generalize ys.length = n2 at *
  go_enter Try.func15, Try.ntmps15
  go_wp2_with fail
  refine K1.mono ?_
  rintro e w2 ⟨v2, rfl, hs2, hb2⟩
  have G2 := Lib.hid hb2
  have S2 := Lib.hid hs2
  have K2 := KB.out w2 hb2
  obtain ⟨a2, c2, rfl, -⟩ := hs2.parts
  generalize p.length = n3 at *
  clear hs2 hb2 K1 KB
  go_wp2_with fail
  refine K2.mono ?_
  rintro e w3 ⟨v3, rfl, hs3, hb3⟩
  have G3 : Hid (Below w.heap.size w w3) := Lib.hid (G2.out.trans (hb3.mono G2.out.size))
  have K3 := KCC.out w3 _ _ (S2.out.below hb3) hs3
  obtain ⟨a3, c3, rfl, -⟩ := hs3.parts
  generalize s.length = n4 at *
  clear hs3 hb3 K2 KCC
  go_wp2_with fail
  refine K3.mono ?_
  rintro e w4 ⟨v4, rfl, ho, hb4⟩
  have G4 : Hid (Below w.heap.size w w4) := Lib.hid (G3.out.trans (hb4.mono G3.out.size))
  have K4 := KZ.out w4 v4 ho.seq
  obtain ⟨a4, c4, rfl, -, -, -⟩ := ho.at n LN.out
  clear ho hb4 K3 KZ
  go_wp2_with fail
  refine K4.mono ?_
  rintro e w5 ⟨v5, rfl, hr, hb5⟩
  have G5 : Hid (Below w.heap.size w w5) := Lib.hid (G4.out.trans (hb5.mono G4.out.size))
  have O := Lib.hid hr.seq
  obtain ⟨a5, c5, rfl, -⟩ := hr.seq.parts
  generalize r.length = n5 at *
  clear hr hb5 K4
  go_wp2_with fail
  go_ret
  exact ⟨_, rfl, O.out, G5.out⟩
end Go.Proofs.Ytklgnmhbfdjoeaa
