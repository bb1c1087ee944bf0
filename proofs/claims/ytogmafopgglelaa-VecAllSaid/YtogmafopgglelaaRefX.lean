/- What the document's own With and Within of vectors leave. -/
import Derived.Test.YtogmafopgglelaaRefL
import Derived.Test.YtogmafopgglelaaRefW
namespace Go.Proofs.Ytogmafopgglelaa
open Go.RowKit Plain
set_option linter.unusedVariables false

theorem rjoin_any {u v : Value} {xs ys : Ints} {w : World} (hs : SeqI w u xs) (ht : SeqI w v ys) (hl : xs.length ≤ 1000000) (hm : ys.length ≤ 1000000) :
    Calls Try.prog 18 #[u, v, .bool true] w (MadeI w (join xs ys)) := rlay_true hs ht hl hm
theorem rmeet_any {u v : Value} {xs ys : Ints} {w : World} (hs : SeqI w u xs) (ht : SeqI w v ys) (hl : xs.length ≤ 1000000) (hm : ys.length ≤ 1000000) :
    Calls Try.prog 18 #[u, v, .bool false] w (MadeI w (meet xs ys)) := by
  have := rlay_false hs ht hl hm
  rwa [meet_long] at this

set_option maxRecDepth 100000 in
set_option maxHeartbeats 1000000 in
/-- Within -/
theorem rwithin_any {u v : Value} {xs ys : Ints} {w : World} (hs : SeqI w u xs) (ht : SeqI w v ys) (hl : xs.length ≤ 1000000) (hm : ys.length ≤ 1000000) :
    Calls Try.prog 21 #[u, v] w fun e w' => e = .returned (.bool (within xs ys)) ∧ Below w.heap.size w w' := by
  have K1 := rjoin_any hs ht hl hm
  have HT := Lib.hid ht
  have LJ := Lib.hid (show (join xs ys).length ≤ 1000000 by have := join_len xs ys; omega)
  have HR0 : within xs ys = true ↔ ∀ i, says (join xs ys) i = says ys i := by rw [Plain.within_iff, same_join]
  generalize within xs ys = r at *
  have HR := Lib.hid HR0
  have LM := Lib.hid hm
  clear hs hl hm HR0
  obtain ⟨a', cap', rfl, -, -, -, -⟩ := ht.parts
  clear ht
  go_enter Try.func21, Try.ntmps21
  go_wp2_with fail
  refine K1.mono ?_
  rintro e w1 ⟨v1, rfl, ho, hb⟩
  have K2 := rsame_any r HR.out ho.seq (HT.out.below hb) LJ.out LM.out
  have HB := Lib.hid hb
  clear ho hb K1
  go_wp2_with fail
  refine K2.mono ?_
  rintro e w2 ⟨rfl, rfl⟩
  go_wp2_with fail
  go_ret
  exact ⟨rfl, HB.out⟩

set_option maxRecDepth 100000 in
set_option maxHeartbeats 1000000 in
/-- With, refused -/
theorem rwith_err (v : Value) (a n : Int) (w : World) (h : a < 0 ∨ 7 < a ∨ n < 0 ∨ 1073741824 < n) :
    Calls Try.prog 11 #[v, .int .i64 a, .int .i64 n] w fun e w' => e = .returned (.tuple #[.slice none 0 0, .int .i64 1]) ∧ ∃ m, w' = w.drewN m := by
  by_cases h1 : a < 0
  · go_enter Try.func11, Try.ntmps11
    go_wp2_with fail
    all_goals go_ret2
    all_goals exact ⟨rfl, 0, rfl⟩
  · by_cases h2 : 7 < a
    · go_enter Try.func11, Try.ntmps11
      go_wp2_with fail
      all_goals go_ret2
      all_goals exact ⟨rfl, 0, rfl⟩
    · by_cases h3 : n < 0
      · go_enter Try.func11, Try.ntmps11
        go_wp2_with fail
        all_goals go_ret2
        all_goals exact ⟨rfl, 0, rfl⟩
      · have h4 : 1073741824 < n := by omega
        clear h
        go_enter Try.func11, Try.ntmps11
        go_wp2_with fail
        all_goals go_ret2
        all_goals exact ⟨rfl, 0, rfl⟩

set_option maxRecDepth 100000 in
set_option maxHeartbeats 8000000 in
/-- With -/
theorem rwith_ok {v : Value} {xs : Ints} {k0 : Nat} {n : Int} {w : World} (hs : SeqI w v xs) (hl : xs.length ≤ 1000000) (hk0 : k0 ≤ 7) (hn0 : 0 ≤ n) (hn1 : n ≤ 1073741824) :
    Calls Try.prog 11 #[v, .int .i64 (k0 : Int), .int .i64 n] w fun e w' => ∃ u, e = .returned (.tuple #[u, .int .i64 0]) ∧ OwnsI w.heap.size w' u (withN xs k0 n) ∧ Below w.heap.size w w' := by
  obtain ⟨a, cap, rfl, g1, g2, g0, h⟩ := hs.parts
  have HS := Lib.hid h
  have HTR := Lib.hid (trim_of_range (withF xs k0 n) (fun i => withF_pos xs k0 n hn0 i) (max xs.length (k0 + 1)))
  rw [show withN xs k0 n = laid (withF xs k0 n) (max xs.length (k0 + 1)) from rfl, ← HTR.out]
  clear HTR hs h g0 g2
  obtain ⟨c, hc⟩ : ∃ c : Nat → Int, c = withF xs k0 n := ⟨_, rfl⟩
  rw [← hc]
  have HC := Lib.hid hc
  obtain ⟨N, hN⟩ : ∃ N : Nat, N = max xs.length (k0 + 1) := ⟨_, rfl⟩
  rw [← hN]
  have n1 : xs.length ≤ N := by omega
  have n2 : k0 + 1 ≤ N := by omega
  have n3 : N ≤ 1000000 := by omega
  have HN := Lib.hid hN
  clear hc hN hl
  generalize hA : xs.length = la at *
  clear hA
  have q1 : ¬ (k0 : Int) < 0 := by omega
  have q2 : ¬ 7 < (k0 : Int) := by omega
  have q3 : ¬ n < 0 := by omega
  have q4 : ¬ 1073741824 < n := by omega
  go_enter Try.func11, Try.ntmps11
  go_wp2_with fail
  go_loopw [8, 9] (fun o i wr => ∃ k : Nat, k ≤ N ∧ i = .int .i64 k ∧ OwnsI w.heap.size wr o ((List.range k).map c) ∧ Below w.heap.size w wr) (fun _ i _ => N - (intOf i).toNat)
  case atStart => exact ⟨0, Nat.zero_le _, rfl, OwnsI.nil _ _, Below.refl _ _⟩
  case round =>
    obtain ⟨k, hk, rfl, ho, hb⟩ := hrel
    have HO := Lib.hid ho
    have HB := Lib.hid hb
    have HL := Lib.hid (show ((List.range k).map c).length = k by simp)
    clear ho hb
    by_cases hlt : k < N
    · have RP := Lib.hid (range_push c k)
      by_cases he : k = k0
      · have hz : c k = n := by rw [HC.out]; unfold withF; rw [if_pos he]
        rw [hz] at RP
        subst he
        clear hz
        by_cases h1 : k < la
        all_goals
          go_wp2_with (at_builtin; refine wpList_append_ints rfl (.tmp 38) (.tmp 40) rfl w.heap.size rfl (HO.out.alloc _) rfl (SeqI.one _ _) (by rw [HL.out]; simp; omega) (by have := HB.out.size; simp; omega) ?_)
          intro v' w1 ho' hg _
          have O2 := Lib.hid ho'
          have G2 : Hid (Below w.heap.size w w1) := Lib.hid ((HB.out.alloc HB.out.size _).grown hg (by have := HB.out.size; simp; omega) (fun j hj => (HO.out.lt j hj).1))
          clear ho' hg
          rw [RP.out] at O2
          go_wp2_with fail
          go_roundw
          case rel => exact ⟨k + 1, by omega, by go_num, O2.out, G2.out⟩
          case measure => simp [intOf]; omega
      · have K1 := rat_any (HS.out.below HB.out) (k : Int)
        rw [saysI_nat] at K1
        have hz : c k = says xs k := by rw [HC.out]; unfold withF; rw [if_neg he]
        rw [hz] at RP
        generalize says xs k = x at *
        clear hz
        have he2 : ¬ (k : Int) = (k0 : Int) := by omega
        have he3 : ((k : Int) == (k0 : Int)) = false := by simpa using he2
        clear he he2
        by_cases h1 : k < la <;> by_cases h2 : k ≤ k0
        all_goals first | (exfalso; have := HN.out; omega) | skip
        all_goals
          go_wp2_with fail
          refine K1.mono ?_
          rintro e w' ⟨rfl, rfl⟩
          clear K1
          go_wp2_with (at_builtin; refine wpList_append_ints rfl (.tmp 42) (.tmp 46) rfl w.heap.size rfl (HO.out.alloc _) rfl (SeqI.one _ _) (by rw [HL.out]; simp; omega) (by have := HB.out.size; simp; omega) ?_)
          intro v' w1 ho' hg _
          have O2 := Lib.hid ho'
          have G2 : Hid (Below w.heap.size w w1) := Lib.hid ((HB.out.alloc HB.out.size _).grown hg (by have := HB.out.size; simp; omega) (fun j hj => (HO.out.lt j hj).1))
          clear ho' hg
          rw [RP.out] at O2
          go_wp2_with fail
          go_roundw
          case rel => exact ⟨k + 1, by omega, by go_num, O2.out, G2.out⟩
          case measure => simp [intOf]; omega
    · obtain rfl : k = N := by omega
      have K3 := rtrim_any HO.out.seq (by rw [HL.out]; exact n3)
      have q5 : ¬ k < la := by omega
      have q6 : ¬ k ≤ k0 := by omega
      go_wp2_with fail
      refine K3.mono ?_
      rintro e w2 ⟨v2, rfl, ho, hb⟩
      have O2 := Lib.hid (ho.mono HB.out.size)
      have G2 := Lib.hid (HB.out.trans (hb.mono HB.out.size))
      clear ho hb
      go_wp2_with fail
      go_ret2
      exact ⟨_, rfl, O2.out, G2.out⟩
end Go.Proofs.Ytogmafopgglelaa
