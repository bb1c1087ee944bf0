/- What the program's own Size, Of, Without of items leave, and the functions that Of and Without hand to those. -/
import Derived.Test.YtpkmjddjllpglaaIThose
import Derived.Test.YtpkmjddjllpglaaGives
import Derived.IntWalk
namespace Go.Proofs.Ytpkmjddjllpglaa
open Go.RowKit Plain
set_option linter.unusedVariables false

/-! ### Of -/
theorem entersOf : ∀ args w, (callFunc 28 args).run Try.prog w = .ok (.enter 28 args) w := enters_of Try.func28 (by kernel_rfl) rfl
set_option maxRecDepth 100000 in
set_option maxHeartbeats 1000000 in
theorem givesOf (x : PItem) (s : Txt) (g : Nat) (W : World) (hc : W.cell? ⟨g, 0, none⟩ = some (.string (bt s))) : Calls Try.prog 28 (#[itv x] ++ #[.pointer (some ⟨g, 0, none⟩)]) W fun e W' => e = .returned (.bool (decide (x.key = s))) ∧ Below W.heap.size W W' := by
  show Calls Try.prog 28 #[.agg #[.string (bt x.key), .string (bt x.field), .int .i64 x.kind, .string (bt x.elem), .int .i64 x.n, .int .i64 x.dot.node, .int .i64 x.dot.seq, .int .i64 x.dot.pos], .pointer (some ⟨g, 0, none⟩)] W _
  have t1 := text_eq x.key s
  have G := Lib.hid ((Below.refl W.heap.size W).alloc (Nat.le_refl _) (.cells #[.string (bt x.key), .string (bt x.field), .int .i64 x.kind, .string (bt x.elem), .int .i64 x.n, .int .i64 x.dot.node, .int .i64 x.dot.seq, .int .i64 x.dot.pos] 40))
  have hlt := World.block_lt_of_cell? W ⟨g, 0, none⟩ hc
  have hc2 : (W.alloc (.cells #[.string (bt x.key), .string (bt x.field), .int .i64 x.kind, .string (bt x.elem), .int .i64 x.n, .int .i64 x.dot.node, .int .i64 x.dot.seq, .int .i64 x.dot.pos] 40)).cell? ⟨g, 0, none⟩ = some (.string (bt s)) := (G.out.cell (p := ⟨g, 0, none⟩) hlt).trans hc
  clear hlt
  generalize decide (x.key = s) = r at *
  generalize bt x.key = K at *
  generalize bt s = S at *
  go_enter Try.func28, Try.ntmps28
  go_wp2_with fail
  go_ret
  exact ⟨rfl, G.out⟩
set_option maxRecDepth 100000 in
set_option maxHeartbeats 1000000 in
/-- Of -/
theorem iof_any {u : Value} {xs : List PItem} {w : World} (hu : SeqE LItem w u xs) (hn : xs.length ≤ 1000000) (s : Txt) :
    Calls Try.prog 20 #[u, .string (bt s)] w (MadeE LItem w (iof xs s)) := by
  have hb := (Below.refl w.heap.size w).alloc (Nat.le_refl _) (.cells #[.string (bt s)] 9)
  have hc : (w.alloc (.cells #[.string (bt s)] 9)).cell? ⟨w.heap.size, 0, none⟩ = some (.string (bt s)) := by simp
  have hlt : w.heap.size < (w.alloc (.cells #[.string (bt s)] 9)).heap.size := by simp
  have K := ithose_any (row := none) (hu.below hb).old hn (fun j => decide ((xs.getD j default).key = s)) (fun _ W => Below (w.alloc (.cells #[.string (bt s)] 9)).heap.size (w.alloc (.cells #[.string (bt s)] 9)) W) 28 #[.pointer (some ⟨w.heap.size, 0, none⟩)] entersOf (fun j hj => by cases hj) (fun k W W' h g => h.trans g)
    (fun k W hk h _ => (givesOf _ s w.heap.size W ((h.cell (p := ⟨w.heap.size, 0, none⟩) hlt).trans hc)).mono fun e W' ⟨he, g⟩ => ⟨he, h.trans (g.mono h.size), grown_of_below g⟩) (Below.refl _ _)
  rw [pickK_all (fun x : PItem => decide (x.key = s)) xs] at K
  change Calls _ _ _ _ (fun e w' => ∃ v, e = .returned v ∧ OwnE LItem _ w' v (iof xs s) ∧ _ ∧ _) at K
  have G := Lib.hid hb
  obtain ⟨a, cap, rfl, -⟩ := hu.parts
  clear hu hb hc hlt
  generalize iof xs s = r at *
  generalize bt s = S at *
  generalize xs.length = n at *
  go_enter Try.func20, Try.ntmps20
  go_wp2_with fail
  refine K.mono ?_
  rintro e w2 ⟨v, rfl, ho, -, hb2⟩
  have O := Lib.hid (ho.mono G.out.size)
  have G2 : Hid (Below w.heap.size w w2) := Lib.hid (G.out.trans (hb2.mono G.out.size))
  obtain ⟨av, cv, rfl, -⟩ := ho.parts
  clear ho hb2 K
  go_wp2_with fail
  go_ret
  exact ⟨_, rfl, O.out, G2.out⟩
end Go.Proofs.Ytpkmjddjllpglaa
