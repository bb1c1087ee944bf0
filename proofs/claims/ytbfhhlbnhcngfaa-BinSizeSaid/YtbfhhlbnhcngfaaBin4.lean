/- What the program's own functions of package bin leave: Text. -/
import Derived.Test.YtbfhhlbnhcngfaaBin3
import Derived.Deep.RegionWith
import Derived.Deep.RegionHeld3
namespace Go.Proofs.Ytbfhhlbnhcngfaa
open Go.RowKit Plain
set_option linter.unusedVariables false

set_option maxRecDepth 100000 in
set_option maxHeartbeats 2000000 in
theorem text_ok {v : Value} {xs : Bytes} {w : World} (hs : Seq w v xs) (hlen : xs.length ≤ 1000000) {n s : Nat} (hr : read xs = (n, s, 0)) (hn : n ≤ 65536) (hnl : n ≤ xs.length - s) :
    Calls Try.prog 18 #[v] w (ReadT (.string (sb ((xs.drop s).take n))) w (xs.drop (s + n))) := by
  obtain ⟨-, h1, h2, h3, h4⟩ := read_back hr
  obtain ⟨b, o, cap, rfl, g1, g2, hs, -⟩ := hs.spot (by omega)
  have K1 := Lib.hid (readNum_seq hs)
  rw [hr] at K1
  unfold RdT at K1
  have hf := hs.from (s + n) (by omega)
  have hd := (hs.from s h4).first n (by rw [List.length_drop]; omega)
  have KC : Hid (∀ u, Below w.heap.size w u → _) := Lib.hid (fun u (hb : Below w.heap.size w u) => clone_some (hf.below hb) (by rw [List.length_drop]; omega))
  have hm : maxLen = 9223372036854775807 := rfl
  rw [hm] at g2
  obtain ⟨e, he⟩ : ∃ e, e = s + n := ⟨_, rfl⟩
  rw [← he] at hf KC
  have hen : n = e - s := by omega
  have hI : ((s : Int) + (n : Int)) = (e : Int) := by omega
  have HI := Lib.hid hI
  rw [hen] at hd
  have HD := Lib.hid hd
  have HT : Hid (ReadT (.string (sb ((xs.drop s).take n))) w (xs.drop (s + n)) = ReadT (.string (sb ((xs.drop s).take (e - s)))) w (xs.drop e)) := Lib.hid (by rw [← he, ← hen])
  rw [HT.out]
  generalize List.drop e xs = ys at *
  generalize List.take (e - s) (List.drop s xs) = zs at *
  have HX := Lib.hid hs
  generalize hL : xs.length = len at *
  have hse : s ≤ e := by omega
  have hel : e ≤ len := by omega
  have hlc : (len : Int) ≤ cap := by omega
  have i1 : (s : Int) + n ≤ len := by omega
  have i2 : (0 : Int) ≤ s := by omega
  have i3 : (0 : Int) ≤ n := by omega
  have i4 : (s : Int) ≤ e := by omega
  have i5 : (e : Int) ≤ len := by omega
  have i6 : (e : Int) ≤ cap := by omega
  have i7 : (0 : Int) ≤ e := by omega
  clear hr hs hf hm hL hd hnl HT hen hI he
  by_cases hcs : cap = e
  · obtain rfl : len = cap := by omega
    obtain rfl : e = len := by omega
    rw [if_pos rfl] at KC
    simp only [Nat.sub_self] at KC
    by_cases hc2 : e = s
    · obtain rfl : s = e := by omega
      rw [if_pos rfl] at HD
      simp only [Nat.sub_self] at HD
      go_enter Try.func18, Try.ntmps18
      go_wp2_with fail
      refine K1.out.mono ?_
      rintro e w1 ⟨rfl, rfl⟩
      go_wp2_with fail
      rw [HI.out]
      go_region_held3 (fun u => (convert 22 9 (.slice (some ⟨b, o, none⟩) 0 0)).run Try.prog u = .ok (.string (sb zs)) u) ((first | exact text_run (HD.out.below hb2) | exact text_run (HD.out.of_cell (fun _ => rfl)))) ((go_at_call 23; refine (KC.out _ ?_).mono ?_; exact (Below.refl _ _).drew; rintro e w1 ⟨v1, rfl, ho1, hb1⟩; have hb2 : Below w.heap.size w w1 := (Below.refl _ _).drew.trans hb1))
      have O1 := Lib.hid ho1
      clear ho1
      go_wp2_with fail
      go_ret3
      exact ⟨_, rfl, O1.out, hb2⟩
    · rw [if_neg hc2] at HD
      go_enter Try.func18, Try.ntmps18
      go_wp2_with fail
      refine K1.out.mono ?_
      rintro e w1 ⟨rfl, rfl⟩
      go_wp2_with fail
      rw [HI.out]
      go_region_held3 (fun u => (convert 22 9 (.slice (some ⟨b, o + s, none⟩) (e - s) (e - s))).run Try.prog u = .ok (.string (sb zs)) u) ((first | exact text_run (HD.out.below hb2) | exact text_run (HD.out.of_cell (fun _ => rfl)))) ((go_at_call 23; refine (KC.out _ ?_).mono ?_; exact (Below.refl _ _).drew; rintro e w1 ⟨v1, rfl, ho1, hb1⟩; have hb2 : Below w.heap.size w w1 := (Below.refl _ _).drew.trans hb1))
      have O1 := Lib.hid ho1
      clear ho1
      go_wp2_with fail
      go_ret3
      exact ⟨_, rfl, O1.out, hb2⟩
  · have hc2 : ¬ cap = s := by omega
    rw [if_neg hcs] at KC
    rw [if_neg hc2] at HD
    go_enter Try.func18, Try.ntmps18
    go_wp2_with fail
    refine K1.out.mono ?_
    rintro e w1 ⟨rfl, rfl⟩
    go_wp2_with fail
    rw [HI.out]
    go_region_held3 (fun u => (convert 22 9 (.slice (some ⟨b, o + s, none⟩) (e - s) (cap - s))).run Try.prog u = .ok (.string (sb zs)) u) ((first | exact text_run (HD.out.below hb2) | exact text_run (HD.out.of_cell (fun _ => rfl)))) ((go_at_call 23; refine (KC.out _ ?_).mono ?_; exact (Below.refl _ _).drew; rintro e w1 ⟨v1, rfl, ho1, hb1⟩; have hb2 : Below w.heap.size w w1 := (Below.refl _ _).drew.trans hb1))
    have O1 := Lib.hid ho1
    clear ho1
    go_wp2_with fail
    go_ret3
    exact ⟨_, rfl, O1.out, hb2⟩
