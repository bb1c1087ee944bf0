/- The law's own function awake. (Written by gen-eawake.py.) -/
import Derived.Test.YthcpglbeiibniaaGreatEDo
import Derived.Test.YthcpglbeiibniaaGreatERight
import Derived.Test.YthcpglbeiibniaaGreatEqI
namespace Go.Proofs.YthcpglbeiibniaaGreat
open Go.RowKit Plain
set_option linter.unusedVariables false

def awX : PItem := ⟨[97], [], 1, [120], 0, ⟨0, 1, 0⟩⟩
def awY : PItem := ⟨[97], [], 1, [121], 0, ⟨1, 1, 0⟩⟩
def awE : PEff := ⟨0, [97], [], 1, [121], 0, [⟨0, 1, 0⟩]⟩
theorem aw_do : edo 1 1 [awX] [awE] = [awY] := by decide +kernel
theorem aw_right : rightB 1 1 [awE] = true := by decide +kernel
theorem aw_ok : effsOk 1 1 [awE] := by
  intro e he
  rw [List.mem_singleton.1 he]
  refine ⟨⟨by decide, by decide, by decide⟩, fun d hd => ?_⟩
  rw [List.mem_singleton.1 (show d ∈ [(⟨0, 1, 0⟩ : PDot)] from hd)]
  exact ⟨by decide, by decide, by decide⟩
theorem aw_okx : ∀ x ∈ [awX], dotOk x.dot := by
  intro x hx
  rw [List.mem_singleton.1 hx]
  exact ⟨by decide, by decide, by decide⟩
theorem aw_short : ∀ e ∈ [awE], e.drops.length ≤ 1000 := by
  intro e he
  rw [List.mem_singleton.1 he]
  decide
/-- what stands in the two variables -/
structure Aw (w u : World) : Prop where
  low : Below w.heap.size w u
  size : w.heap.size + 3 ≤ u.heap.size
  d : SeqE LDot u (.slice (some ⟨w.heap.size + 1, 0, none⟩) 1 1) [⟨0, 1, 0⟩]
  x : u.cell? ⟨w.heap.size, 0, none⟩ = some (.string ⟨#[97]⟩) ∧ u.cell? ⟨w.heap.size, 1, none⟩ = some (.string ⟨#[]⟩) ∧ u.cell? ⟨w.heap.size, 2, none⟩ = some (.int .i64 1) ∧ u.cell? ⟨w.heap.size, 3, none⟩ = some (.string ⟨#[120]⟩) ∧ u.cell? ⟨w.heap.size, 4, none⟩ = some (.int .i64 0) ∧ u.cell? ⟨w.heap.size, 5, none⟩ = some (.int .i64 0) ∧ u.cell? ⟨w.heap.size, 6, none⟩ = some (.int .i64 1) ∧ u.cell? ⟨w.heap.size, 7, none⟩ = some (.int .i64 0)
  e : u.cell? ⟨w.heap.size + 1 + 1, 0, none⟩ = some (.int .i64 0) ∧ u.cell? ⟨w.heap.size + 1 + 1, 1, none⟩ = some (.string ⟨#[97]⟩) ∧ u.cell? ⟨w.heap.size + 1 + 1, 2, none⟩ = some (.string ⟨#[]⟩) ∧ u.cell? ⟨w.heap.size + 1 + 1, 3, none⟩ = some (.int .i64 1) ∧ u.cell? ⟨w.heap.size + 1 + 1, 4, none⟩ = some (.string ⟨#[121]⟩) ∧ u.cell? ⟨w.heap.size + 1 + 1, 5, none⟩ = some (.int .i64 0) ∧ u.cell? ⟨w.heap.size + 1 + 1, 6, none⟩ = some (.slice (some ⟨w.heap.size + 1, 0, none⟩) 1 1)
theorem Aw.below {w u u' : World} (h : Aw w u) (hb : Below u.heap.size u u') : Aw w u' := by
  have hs := h.size
  have c : ∀ {a : Addr} {v : Value}, u.cell? a = some v → u'.cell? a = some v := fun g => (hb.cell (World.block_lt_of_cell? u _ g)).trans g
  obtain ⟨x0, x1, x2, x3, x4, x5, x6, x7⟩ := h.x
  obtain ⟨e0, e1, e2, e3, e4, e5, e6⟩ := h.e
  exact ⟨h.low.trans (hb.mono h.low.size), Nat.le_trans hs hb.size, h.d.below hb, ⟨c x0, c x1, c x2, c x3, c x4, c x5, c x6, c x7⟩, ⟨c e0, c e1, c e2, c e3, c e4, c e5, c e6⟩⟩
theorem aw_new (w : World) : Aw w (((w.alloc (.cells #[.string ⟨#[97]⟩, .string ⟨#[]⟩, .int .i64 1, .string ⟨#[120]⟩, .int .i64 0, .int .i64 0, .int .i64 1, .int .i64 0] 39)).alloc (.cells #[.int .i64 0, .int .i64 1, .int .i64 0] 37)).alloc (.cells #[.int .i64 0, .string ⟨#[97]⟩, .string ⟨#[]⟩, .int .i64 1, .string ⟨#[121]⟩, .int .i64 0, .slice (some ⟨w.heap.size + 1, 0, none⟩) 1 1] 35)) := by
  refine ⟨((((Below.refl _ _).alloc (Nat.le_refl _) _).alloc (by simp) _).alloc (by simp; omega) _), by simp, ?_, ?_, ?_⟩
  · have h := SeqE.one (L := LDot) (w := w.alloc (.cells #[.string ⟨#[97]⟩, .string ⟨#[]⟩, .int .i64 1, .string ⟨#[120]⟩, .int .i64 0, .int .i64 0, .int .i64 1, .int .i64 0] 39)) (vs := cellsDt ⟨0, 1, 0⟩) (x := ⟨0, 1, 0⟩) rfl #[.int .i64 0, .int .i64 1, .int .i64 0] rfl
    have s1 : (w.alloc (.cells #[.string ⟨#[97]⟩, .string ⟨#[]⟩, .int .i64 1, .string ⟨#[120]⟩, .int .i64 0, .int .i64 0, .int .i64 1, .int .i64 0] 39)).heap.size = w.heap.size + 1 := by simp
    rw [s1] at h
    exact h.below_alloc _
  · exact ⟨(three_cells w _ _ _ _ _ _ 0).1, (three_cells w _ _ _ _ _ _ 1).1, (three_cells w _ _ _ _ _ _ 2).1, (three_cells w _ _ _ _ _ _ 3).1, (three_cells w _ _ _ _ _ _ 4).1, (three_cells w _ _ _ _ _ _ 5).1, (three_cells w _ _ _ _ _ _ 6).1, (three_cells w _ _ _ _ _ _ 7).1⟩
  · exact ⟨(three_cells w _ _ _ _ _ _ 0).2.2, (three_cells w _ _ _ _ _ _ 1).2.2, (three_cells w _ _ _ _ _ _ 2).2.2, (three_cells w _ _ _ _ _ _ 3).2.2, (three_cells w _ _ _ _ _ _ 4).2.2, (three_cells w _ _ _ _ _ _ 5).2.2, (three_cells w _ _ _ _ _ _ 6).2.2⟩
theorem aw_eff {w u : World} (h : Aw w u) : SeqE LEff (u.alloc (.cells #[.int .i64 0, .string ⟨#[97]⟩, .string ⟨#[]⟩, .int .i64 1, .string ⟨#[121]⟩, .int .i64 0, .slice (some ⟨w.heap.size + 1, 0, none⟩) 1 1] 35)) (.slice (some ⟨u.heap.size, 0, none⟩) 1 1) [awE] :=
  SeqE.one (L := LEff) (w := u) (vs := cellsEf awE (.slice (some ⟨w.heap.size + 1, 0, none⟩) 1 1)) (x := awE) ⟨_, rfl, h.d⟩ #[.int .i64 0, .string ⟨#[97]⟩, .string ⟨#[]⟩, .int .i64 1, .string ⟨#[121]⟩, .int .i64 0, .slice (some ⟨w.heap.size + 1, 0, none⟩) 1 1] rfl
theorem aw_item (u : World) : SeqE LItem (u.alloc (.cells #[.string ⟨#[97]⟩, .string ⟨#[]⟩, .int .i64 1, .string ⟨#[120]⟩, .int .i64 0, .int .i64 0, .int .i64 1, .int .i64 0] 39)) (.slice (some ⟨u.heap.size, 0, none⟩) 1 1) [awX] :=
  SeqE.one (L := LItem) (w := u) (vs := cellsIt awX) (x := awX) rfl #[.string ⟨#[97]⟩, .string ⟨#[]⟩, .int .i64 1, .string ⟨#[120]⟩, .int .i64 0, .int .i64 0, .int .i64 1, .int .i64 0] rfl

set_option maxRecDepth 100000 in
set_option maxHeartbeats 8000000 in
theorem awake_any (w : World) : Calls Tryz.prog 4 #[] w (GivesB w true) := by
  have HA := Lib.hid (aw_new w)
  go_enter Tryz.func4, Tryz.ntmps4
  go_upto_region 3 with fail
  generalize (((w.alloc (.cells #[.string ⟨#[97]⟩, .string ⟨#[]⟩, .int .i64 1, .string ⟨#[120]⟩, .int .i64 0, .int .i64 0, .int .i64 1, .int .i64 0] 39)).alloc (.cells #[.int .i64 0, .int .i64 1, .int .i64 0] 37)).alloc (.cells #[.int .i64 0, .string ⟨#[97]⟩, .string ⟨#[]⟩, .int .i64 1, .string ⟨#[121]⟩, .int .i64 0, .slice (some ⟨w.heap.size + 1, 0, none⟩) 1 1] 35)) = w3 at *
  have HA4 := Lib.hid (HA.out.below ((Below.refl w3.heap.size w3).alloc (Nat.le_refl _) (.cells #[.string ⟨#[97]⟩, .string ⟨#[]⟩, .int .i64 1, .string ⟨#[120]⟩, .int .i64 0, .int .i64 0, .int .i64 1, .int .i64 0] 39)))
  have HA5 := Lib.hid (HA4.out.below ((Below.refl (w3.alloc (.cells #[.string ⟨#[97]⟩, .string ⟨#[]⟩, .int .i64 1, .string ⟨#[120]⟩, .int .i64 0, .int .i64 0, .int .i64 1, .int .i64 0] 39)).heap.size (w3.alloc (.cells #[.string ⟨#[97]⟩, .string ⟨#[]⟩, .int .i64 1, .string ⟨#[120]⟩, .int .i64 0, .int .i64 0, .int .i64 1, .int .i64 0] 39))).alloc (Nat.le_refl _) (.cells #[.int .i64 0, .string ⟨#[97]⟩, .string ⟨#[]⟩, .int .i64 1, .string ⟨#[121]⟩, .int .i64 0, .slice (some ⟨w.heap.size + 1, 0, none⟩) 1 1] 35)))
  have SX := (aw_item w3).below_alloc (.cells #[.int .i64 0, .string ⟨#[97]⟩, .string ⟨#[]⟩, .int .i64 1, .string ⟨#[121]⟩, .int .i64 0, .slice (some ⟨w.heap.size + 1, 0, none⟩) 1 1] 35)
  have SE := aw_eff HA4.out
  rw [show (w3.alloc (.cells #[.string ⟨#[97]⟩, .string ⟨#[]⟩, .int .i64 1, .string ⟨#[120]⟩, .int .i64 0, .int .i64 0, .int .i64 1, .int .i64 0] 39)).heap.size = w3.heap.size + 1 by simp] at SE
  have K := Lib.hid (edo_any 1 1 SX SE (by simp) (by simp) aw_short aw_okx aw_ok)
  rw [aw_do] at K
  obtain ⟨x0, x1, x2, x3, x4, x5, x6, x7⟩ := HA.out.x
  obtain ⟨e0, e1, e2, e3, e4, e5, e6⟩ := HA4.out.e
  clear SX SE HA4
  go_wp2_with fail
  refine K.out.mono ?_
  rintro e u ⟨v, rfl, ho, hb⟩
  have HU := Lib.hid (HA5.out.below hb)
  have SV := ho.seq
  clear ho hb K HA HA5 x0 x1 x2 x3 x4 x5 x6 x7 e0 e1 e2 e3 e4 e5 e6
  obtain ⟨b, o, c, rfl, g1, g2, -, hc⟩ := items_spot SV (by simp)
  have IY : ItemAt u b o awY := by
    have := hc 0 (by simp)
    rw [Nat.zero_mul, Nat.add_zero] at this
    exact this
  have y3 : u.cell? ⟨b, o + 3, none⟩ = some (.string ⟨#[121]⟩) := IY.c3
  have y5 : u.cell? ⟨b, o + 5, none⟩ = some (.int .i64 1) := IY.c5
  have y6 : u.cell? ⟨b, o + 6, none⟩ = some (.int .i64 1) := IY.c6
  have y7 : u.cell? ⟨b, o + 7, none⟩ = some (.int .i64 0) := IY.c7
  have hq : ∀ w, (binOp .eql 37 (.agg #[.int .i64 1, .int .i64 1, .int .i64 0]) (.agg #[.int .i64 1, .int .i64 1, .int .i64 0])).run Tryz.prog w = .ok (.bool true) w := fun w => eql_dot ⟨1, 1, 0⟩ ⟨1, 1, 0⟩ w
  obtain ⟨e0, e1, e2, e3, e4, e5, e6⟩ := HU.out.e
  have KR := Lib.hid (eright_any 1 1 (aw_eff HU.out) (by simp) (fun e he => by have := aw_short e he; omega))
  rw [aw_right] at KR
  have GU := Lib.hid (HU.out.low.alloc HU.out.low.size (.cells #[.int .i64 0, .string ⟨#[97]⟩, .string ⟨#[]⟩, .int .i64 1, .string ⟨#[121]⟩, .int .i64 0, .slice (some ⟨w.heap.size + 1, 0, none⟩) 1 1] 35))
  simp only [List.length_cons, List.length_nil, Nat.zero_add] at *
  clear hc IY SV
  go_wp2_with fail
  refine KR.out.mono ?_
  rintro e u2 ⟨rfl, hb⟩
  have G := Lib.hid (GU.out.trans (hb.mono GU.out.size))
  clear hb KR e0 e1 e2 e3 e4 e5 e6 y3 y5 y6 y7
  go_wp2_with fail
  go_ret
  exact ⟨rfl, G.out⟩
end Go.Proofs.YthcpglbeiibniaaGreat
