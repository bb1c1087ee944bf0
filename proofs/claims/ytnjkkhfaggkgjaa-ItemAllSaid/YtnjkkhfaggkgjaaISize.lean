/- What the program's own Size, Of, Without of items leave, and the functions that Of and Without hand to those. -/
import Derived.Test.YtnjkkhfaggkgjaaIThose
import Derived.Test.YtnjkkhfaggkgjaaRefS
import Derived.IntWalk
namespace Go.Proofs.Ytnjkkhfaggkgjaa
open Go.RowKit Plain
set_option linter.unusedVariables false

set_option maxRecDepth 100000 in
set_option maxHeartbeats 4000000 in
/-- Size -/
theorem isize_any {u : Value} {xs : List PItem} {w : World} (hu : SeqE LItem w u xs) (hn : xs.length ≤ 1000000) (hb : ∀ x ∈ xs, shortB1 x = true) :
    Calls Try.prog 25 #[u] w (GivesI w (isize xs : Int)) := by
  obtain ⟨a, cap, rfl, g1, g2, g0, h⟩ := hu.parts
  have HS := Lib.hid h
  have HW : Hid (isize xs = isize (xs.take xs.length)) := Lib.hid (by rw [List.take_length])
  rw [HW.out]
  obtain ⟨n, hN⟩ : ∃ n, xs.length = n := ⟨_, rfl⟩
  rw [hN] at g1 hn ⊢
  have LN := Lib.hid hN
  have HX := Lib.hid (fun k hk => isize_take xs (k := k) hk)
  have HB := Lib.hid (fun k (hk : k < xs.length) => short1_iff.1 (hb _ (mem_def hk)))
  have H0 : Hid (isize (xs.take 0) = 0) := Lib.hid rfl
  clear hu h g0 hN HW hb
  generalize hf : (fun k => isize (xs.take k)) = f at *
  have HF := Lib.hid (fun k => congrFun hf k)
  clear hf
  rw [show isize (xs.take n) = f n from HF.out n]
  go_enter Try.func25, Try.ntmps25
  go_wp2_with fail
  go_loopw [3, 8] (fun s i wr => ∃ k : Nat, k ≤ n ∧ i = .int .i64 k ∧ s = .int .i64 ((f k : Nat) : Int) ∧ f k ≤ 924 * k ∧ Below w.heap.size w wr) (fun _ i _ => n - (intOf i).toNat)
  case atStart => exact ⟨0, Nat.zero_le _, rfl, by rw [← HF.out, H0.out]; rfl, by rw [← HF.out, H0.out]; omega, Below.refl _ _⟩
  case round =>
    obtain ⟨k, hk, rfl, rfl, hf, hb⟩ := hrel
    have GB := Lib.hid hb
    clear hb
    by_cases hlt : k < n
    · have HK := Lib.hid (show k < xs.length by rw [LN.out]; exact hlt)
      obtain ⟨b, o, c, hv, -, -, -, hc⟩ := items_spot (HS.out.below GB.out) (by rw [LN.out]; omega)
      rw [LN.out] at hv
      simp only [Value.slice.injEq] at hv
      obtain ⟨rfl, -, rfl⟩ := hv
      obtain ⟨c0, c1, c2, c3, c4, c5, c6, c7⟩ := hc k HK.out
      have HXK := Lib.hid (HX.out k HK.out)
      have hxk := HXK.out
      obtain ⟨b1, b2, b3⟩ := HB.out k HK.out
      clear hc
      generalize xs.getD k default = x at *
      rw [show isize (xs.take (k + 1)) = f (k + 1) from HF.out (k + 1), show isize (xs.take k) = f k from HF.out k] at hxk
      have z1 := bt_size x.key
      have z2 := bt_size x.field
      have z3 := bt_size x.elem
      have HI : isize1 x = 24 + x.key.length + x.field.length + x.elem.length := rfl
      rw [HI] at hxk
      have G2 := Lib.hid (GB.out.alloc GB.out.size (.cells #[.string (bt x.key), .string (bt x.field), .int .i64 x.kind, .string (bt x.elem), .int .i64 x.n, .int .i64 x.dot.node, .int .i64 x.dot.seq, .int .i64 x.dot.pos] 26))
      clear HI HXK
      generalize bt x.key = K at *
      generalize bt x.field = F at *
      generalize bt x.elem = El at *
      generalize x.key.length = m1 at *
      generalize x.field.length = m2 at *
      generalize x.elem.length = m3 at *
      obtain ⟨s, hs⟩ : ∃ s, f k = s := ⟨_, rfl⟩
      rw [hs] at hxk hf ⊢
      have HSS := Lib.hid hs
      clear hs
      have HX2 := Lib.hid hxk
      clear hxk
      have hs2 : s ≤ 924000000 := by omega
      have i1 : IntKind.i64.wrap ((m1 : Int) + m2) = (m1 : Int) + m2 := IntWalk.i64_in _ (by omega)
      have i2 : IntKind.i64.wrap ((m1 : Int) + m2 + m3) = (m1 : Int) + m2 + m3 := IntWalk.i64_in _ (by omega)
      have i3 : IntKind.i64.wrap ((m1 : Int) + m2 + m3 + 24) = (m1 : Int) + m2 + m3 + 24 := IntWalk.i64_in _ (by omega)
      have i4 : IntKind.i64.wrap ((s : Int) + ((m1 : Int) + m2 + m3 + 24)) = (s : Int) + ((m1 : Int) + m2 + m3 + 24) := IntWalk.i64_in _ (by omega)
      go_wp2_with fail
      go_roundw
      case rel => exact ⟨k + 1, by omega, by go_num, by have h2 := HX2.out; rw [h2]; congr 1; omega, by have h2 := HX2.out; rw [h2]; omega, G2.out⟩
      case measure => simp [intOf]; omega
    · obtain rfl : k = n := by omega
      go_wp2_with fail
      go_ret
      exact ⟨rfl, GB.out⟩

/-! ### Of -/
theorem entersOf : ∀ args w, (callFunc 49 args).run Try.prog w = .ok (.enter 49 args) w := enters_of Try.func49 (by kernel_rfl) rfl
set_option maxRecDepth 100000 in
set_option maxHeartbeats 1000000 in
theorem givesOf (x : PItem) (s : Txt) (g : Nat) (W : World) (hc : W.cell? ⟨g, 0, none⟩ = some (.string (bt s))) : Calls Try.prog 49 (#[itv x] ++ #[.pointer (some ⟨g, 0, none⟩)]) W fun e W' => e = .returned (.bool (decide (x.key = s))) ∧ Below W.heap.size W W' := by
  show Calls Try.prog 49 #[.agg #[.string (bt x.key), .string (bt x.field), .int .i64 x.kind, .string (bt x.elem), .int .i64 x.n, .int .i64 x.dot.node, .int .i64 x.dot.seq, .int .i64 x.dot.pos], .pointer (some ⟨g, 0, none⟩)] W _
  have t1 := text_eq x.key s
  have G := Lib.hid ((Below.refl W.heap.size W).alloc (Nat.le_refl _) (.cells #[.string (bt x.key), .string (bt x.field), .int .i64 x.kind, .string (bt x.elem), .int .i64 x.n, .int .i64 x.dot.node, .int .i64 x.dot.seq, .int .i64 x.dot.pos] 26))
  have hlt := World.block_lt_of_cell? W ⟨g, 0, none⟩ hc
  have hc2 : (W.alloc (.cells #[.string (bt x.key), .string (bt x.field), .int .i64 x.kind, .string (bt x.elem), .int .i64 x.n, .int .i64 x.dot.node, .int .i64 x.dot.seq, .int .i64 x.dot.pos] 26)).cell? ⟨g, 0, none⟩ = some (.string (bt s)) := (G.out.cell (p := ⟨g, 0, none⟩) hlt).trans hc
  clear hlt
  generalize decide (x.key = s) = r at *
  generalize bt x.key = K at *
  generalize bt s = S at *
  go_enter Try.func49, Try.ntmps49
  go_wp2_with fail
  go_ret
  exact ⟨rfl, G.out⟩
set_option maxRecDepth 100000 in
set_option maxHeartbeats 1000000 in
/-- Of -/
theorem iof_any {u : Value} {xs : List PItem} {w : World} (hu : SeqE LItem w u xs) (hn : xs.length ≤ 1000000) (s : Txt) :
    Calls Try.prog 20 #[u, .string (bt s)] w (MadeE LItem w (iof xs s)) := by
  have hb := (Below.refl w.heap.size w).alloc (Nat.le_refl _) (.cells #[.string (bt s)] 9)
  have hc : (w.alloc (.cells #[.string (bt s)] 9)).cell? ⟨w.heap.size, 0, none⟩ = some (.string (bt s)) := by simp
  have hlt : w.heap.size < (w.alloc (.cells #[.string (bt s)] 9)).heap.size := by simp
  have K := ithose_any (row := none) (hu.below hb).old hn (fun j => decide ((xs.getD j default).key = s)) (fun _ W => Below (w.alloc (.cells #[.string (bt s)] 9)).heap.size (w.alloc (.cells #[.string (bt s)] 9)) W) 49 #[.pointer (some ⟨w.heap.size, 0, none⟩)] entersOf (fun j hj => by cases hj) (fun k W W' h g => h.trans g)
    (fun k W hk h _ => (givesOf _ s w.heap.size W ((h.cell (p := ⟨w.heap.size, 0, none⟩) hlt).trans hc)).mono fun e W' ⟨he, g⟩ => ⟨he, h.trans (g.mono h.size), grown_of_below g⟩) (Below.refl _ _)
  rw [pickK_all (fun x : PItem => decide (x.key = s)) xs] at K
  change Calls _ _ _ _ (fun e w' => ∃ v, e = .returned v ∧ OwnE LItem _ w' v (iof xs s) ∧ _ ∧ _) at K
  have G := Lib.hid hb
  obtain ⟨a, cap, rfl, -⟩ := hu.parts
  clear hu hb hc hlt
  generalize iof xs s = r at *
  generalize bt s = S at *
  generalize xs.length = n at *
  go_enter Try.func20, Try.ntmps20
  go_wp2_with fail
  refine K.mono ?_
  rintro e w2 ⟨v, rfl, ho, -, hb2⟩
  have O := Lib.hid (ho.mono G.out.size)
  have G2 : Hid (Below w.heap.size w w2) := Lib.hid (G.out.trans (hb2.mono G.out.size))
  obtain ⟨av, cv, rfl, -⟩ := ho.parts
  clear ho hb2 K
  go_wp2_with fail
  go_ret
  exact ⟨_, rfl, O.out, G2.out⟩
end Go.Proofs.Ytnjkkhfaggkgjaa
