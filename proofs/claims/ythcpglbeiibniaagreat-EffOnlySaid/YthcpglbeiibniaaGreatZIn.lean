/- What the program's own Union, Covers, Within, Without, Inter of texts leave. -/
import Derived.Test.YthcpglbeiibniaaGreatZHeads
namespace Go.Proofs.YthcpglbeiibniaaGreat
open Go.RowKit Plain
set_option linter.unusedVariables false

/-- heads of ys in a variable of the call's own: what the functions that hold it read in every later world -/
structure Held (w wb : World) (k : Nat) (zv : Value) (ys : List Txt) : Prop where
  low : Below w.heap.size w wb
  lt : k < wb.heap.size
  cell : wb.cell? ⟨k, 0, none⟩ = some zv
  seq : SeqT wb zv (least ys)
theorem held_of {w w2 : World} {zv : Value} {ys : List Txt} (hb : Below w.heap.size w w2) (hs : SeqT w2 zv (least ys)) : Held w (w2.alloc (.cells #[zv] 24)) w2.heap.size zv ys :=
  ⟨hb.alloc hb.size _, by simp, by simp, hs.below_alloc _⟩
theorem Held.later {w wb W : World} {k : Nat} {zv : Value} {ys : List Txt} (h : Held w wb k zv ys) (hb : Below wb.heap.size wb W) : W.cell? ⟨k, 0, none⟩ = some zv ∧ SeqT W zv (least ys) :=
  ⟨(hb.cell (p := ⟨k, 0, none⟩) h.lt).trans h.cell, h.seq.below hb⟩
theorem held38 {w wb : World} {k : Nat} {zv : Value} {ys : List Txt} (h : Held w wb k zv ys) (hy : ys.length ≤ 1000000) (W : World) (x : Txt) (hb : Below wb.heap.size wb W) : FnGives Tryz.prog 64 #[.pointer (some ⟨k, 0, none⟩)] #[tv x] (.bool (covers ys x)) W := by
  have := gives38 x k W (h.later hb).1 (h.later hb).2 (rising_once _) (apart_least ys) (by have := least_len ys; omega)
  rwa [covers_least] at this
theorem filter_once (p : Txt → Bool) (xs : List Txt) : (once xs).filter p = once (xs.filter p) := rising_ext ((rising_once xs).filter p) (rising_once _) fun t => by rw [List.mem_filter, mem_once, mem_once, List.mem_filter]

set_option maxRecDepth 100000 in
set_option maxHeartbeats 1000000 in
/-- Without -/
theorem zwithout_any {u v : Value} {xs ys : List Txt} {w : World} (hu : SeqT w u xs) (hv : SeqT w v ys) (hx : xs.length ≤ 1000000) (hy : ys.length ≤ 1000000) :
    Calls Tryz.prog 43 #[u, v] w (GivesT w (without xs ys)) := by
  have K1 := zheads_any hv hy
  have KC := Lib.hid (fun (w2 : World) (zv : Value) (hb : Below w.heap.size w w2) (hs : SeqT w2 zv (least ys)) => zrising_any (hu.below (held_of hb hs).low) hx)
  have HW : Hid ((once xs).filter (fun s => !covers ys s) = without xs ys) := Lib.hid (filter_once _ _)
  have hol := once_len xs
  obtain ⟨a, cap, rfl, -⟩ := hu.parts
  obtain ⟨a', cap', rfl, -⟩ := hv.parts
  generalize without xs ys = r at *
  clear hu hv
  go_enter Tryz.func43, Tryz.ntmps43
  go_wp2_with fail
  refine K1.mono ?_
  rintro e w2 ⟨v2, rfl, ho, hb⟩
  have K2 := KC.out w2 v2 hb ho.seq
  have HH := Lib.hid (held_of hb ho.seq)
  obtain ⟨a2, c2, rfl, -, -, -⟩ := ho.at _ rfl
  generalize (least ys).length = m at *
  clear ho hb K1 KC
  go_wp2_with fail
  refine K2.mono ?_
  rintro e w3 ⟨v3, rfl, hr, hb3⟩
  have K3 := delete_texts hr hb3 hb3.size (by omega) (fun s => covers ys s) 64 #[.pointer (some ⟨w2.heap.size, 0, none⟩)] enters38 (fun W x hW => held38 HH.out hy W x hW)
  rw [HW.out] at K3
  obtain ⟨a3, c3, rfl, -⟩ := hr.seq.parts
  generalize (once xs).length = m3 at *
  clear hr hb3 K2
  go_wp2_with fail
  refine K3.mono ?_
  rintro e w4 ⟨v4, rfl, hr, hb4⟩
  have G : Hid (Below w.heap.size w w4) := Lib.hid (HH.out.low.trans (hb4.mono HH.out.low.size))
  have O := Lib.hid hr.seq
  obtain ⟨a4, c4, rfl, -⟩ := hr.seq.parts
  generalize r.length = m4 at *
  clear hr hb4 K3
  go_wp2_with fail
  go_ret
  exact ⟨_, rfl, O.out, G.out⟩

end Go.Proofs.YthcpglbeiibniaaGreat
