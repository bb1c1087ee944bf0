/- What the program's own made and isOf of effects leave. -/
import Derived.Test.YthcpglbeiibniaaEff
import Derived.Test.YthcpglbeiibniaaEWay
import Derived.Test.YthcpglbeiibniaaElG
import Derived.Test.YthcpglbeiibniaaGives
import Derived.Deep.Cut
namespace Go.Proofs.Ythcpglbeiibniaa
open Go.RowKit Plain
set_option linter.unusedVariables false

set_option maxRecDepth 100000 in
set_option maxHeartbeats 4000000 in
/-- made -/
theorem emade_any (node seq : Int) (x : PEff) (a : Option Addr) (n c : Nat) (w : World) :
    Calls Try.prog 19 #[.int .i64 node, .int .i64 seq, .agg #[.int .i64 x.pos, .string (bt x.key), .string (bt x.field), .int .i64 x.kind, .string (bt x.elem), .int .i64 x.n, .slice a n c]] w fun e w' => e = .returned (.agg #[.string (bt x.key), .string (bt x.field), .int .i64 x.kind, .string (bt x.elem), .int .i64 x.n, .int .i64 node, .int .i64 seq, .int .i64 x.pos]) ∧ Below w.heap.size w w' := by
  show Calls Try.prog 19 _ w fun e w' => e = .returned (.agg #[.string (bt x.key), .string (bt x.field), .int .i64 x.kind, .string (bt x.elem), .int .i64 x.n, .int .i64 node, .int .i64 seq, .int .i64 x.pos]) ∧ Below w.heap.size w w'
  go_enter Try.func19, Try.ntmps19
  go_wp2_with fail
  refine bodyPost_ret (v := .agg #[.string (bt x.key), .string (bt x.field), .int .i64 x.kind, .string (bt x.elem), .int .i64 x.n, .int .i64 node, .int .i64 seq, .int .i64 x.pos]) (by simp [results, Try.results19, go_sem]) rfl ⟨rfl, ?_⟩
  exact (((Below.refl _ _).alloc (Nat.le_refl _) _).alloc (by simp) _).alloc (by simp; omega) _

def isOfB (node seq : Int) (d : PDot) : Bool := decide (d.node = node) && decide (d.seq = seq)
set_option maxRecDepth 100000 in
set_option maxHeartbeats 2000000 in
/-- isOf -/
theorem eisOf_any (node seq : Int) (d : PDot) (w : World) :
    Calls Try.prog 24 #[.int .i64 node, .int .i64 seq, .agg #[.int .i64 d.node, .int .i64 d.seq, .int .i64 d.pos]] w (GivesB w (isOfB node seq d)) := by
  have G := Lib.hid ((Below.refl w.heap.size w).alloc (Nat.le_refl _) (.cells #[.int .i64 d.node, .int .i64 d.seq, .int .i64 d.pos] 35))
  unfold isOfB
  generalize d.node = dn at *
  generalize d.seq = ds at *
  by_cases h1 : dn = node
  · by_cases h2 : ds = seq
    · rw [decide_eq_true h1, decide_eq_true h2]
      have e1 : (dn == node) = true := by simp [h1]
      have e2 : (ds == seq) = true := by simp [h2]
      clear h1 h2
      go_enter Try.func24, Try.ntmps24
      go_wp2_with fail
      go_ret
      exact ⟨rfl, G.out⟩
    · rw [decide_eq_true h1, decide_eq_false h2]
      have e1 : (dn == node) = true := by simp [h1]
      have e2 : (ds == seq) = false := by simp [h2]
      clear h1 h2
      go_enter Try.func24, Try.ntmps24
      go_wp2_with fail
      go_ret
      exact ⟨rfl, G.out⟩
  · rw [decide_eq_false h1]
    have e1 : (dn == node) = false := by simp [h1]
    clear h1
    go_enter Try.func24, Try.ntmps24
    go_wp2_with fail
    go_ret
    exact ⟨rfl, G.out⟩
end Go.Proofs.Ythcpglbeiibniaa
