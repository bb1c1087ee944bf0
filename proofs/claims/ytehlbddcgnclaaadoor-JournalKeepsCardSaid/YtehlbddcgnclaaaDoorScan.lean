/- What the program's own Scan leaves: the records of all frames from the beginning on, up to where none stands, and how many bytes they take. -/
import Derived.Test.YtehlbddcgnclaaaDoorLay
namespace Go.Proofs.YtehlbddcgnclaaaDoor
open Go.RowKit Plain
set_option linter.unusedVariables false

/-- records in a row of the call's own, and how many bytes they take -/
def ScanT (xs : Bytes) (w : World) (e : Ending) (w' : World) : Prop := ∃ v ls k, e = .returned (.tuple #[v, .int .i64 (k : Nat)]) ∧ Scans xs ls k ∧ OwnsR w.heap.size w' v ls ∧ Below w.heap.size w w'

set_option maxRecDepth 100000 in
set_option maxHeartbeats 1000000 in
theorem scan_empty (a : Option Addr) (cap : Nat) (w : World) (h0 : a = none → cap = 0) :
    Calls Tryd.prog 27 #[.slice a 0 cap] w (ScanT [] w) := by
  have S0 := Lib.hid (scans_none (first_short [] (by simp)))
  have KF := Lib.hid (fun a cap u => first_few a 0 cap u (by omega))
  cases a with
  | none =>
    obtain rfl := h0 rfl
    clear h0
    go_enter Tryd.func27, Tryd.ntmps27
    go_wp2_with fail
    go_loop [4, 5] (fun r t => r = .slice none 0 0 ∧ t = .int .i64 0) (fun _ _ => 0)
    case atStart => exact ⟨rfl, rfl⟩
    case round =>
      obtain ⟨rfl, rfl⟩ := hrel
      go_wp2_with fail
      refine (KF.out _ _ _).mono ?_
      rintro e w1 ⟨u, rfl, hb⟩
      go_wp2_with fail
      go_ret2
      exact ⟨_, [], 0, rfl, S0.out, OwnsR.nil _ _, hb⟩
  | some ad =>
    obtain ⟨b, o, spot⟩ := ad
    clear h0
    by_cases hc : cap = 0
    · subst hc
      go_enter Tryd.func27, Tryd.ntmps27
      go_wp2_with fail
      go_loop [4, 5] (fun r t => r = .slice none 0 0 ∧ t = .int .i64 0) (fun _ _ => 0)
      case atStart => exact ⟨rfl, rfl⟩
      case round =>
        obtain ⟨rfl, rfl⟩ := hrel
        go_wp2_with fail
        refine (KF.out _ _ _).mono ?_
        rintro e w1 ⟨u, rfl, hb⟩
        go_wp2_with fail
        go_ret2
        exact ⟨_, [], 0, rfl, S0.out, OwnsR.nil _ _, hb⟩
    · go_enter Tryd.func27, Tryd.ntmps27
      go_wp2_with fail
      go_loop [4, 5] (fun r t => r = .slice none 0 0 ∧ t = .int .i64 0) (fun _ _ => 0)
      case atStart => exact ⟨rfl, rfl⟩
      case round =>
        obtain ⟨rfl, rfl⟩ := hrel
        go_wp2_with fail
        refine (KF.out _ _ _).mono ?_
        rintro e w1 ⟨u, rfl, hb⟩
        go_wp2_with fail
        go_ret2
        exact ⟨_, [], 0, rfl, S0.out, OwnsR.nil _ _, hb⟩

set_option maxRecDepth 100000 in
set_option maxHeartbeats 2000000 in
theorem scan_any {v : Value} {xs : Bytes} {w : World} (hs : Seq w v xs) (hT : HasTab w) (hlen : xs.length ≤ 800000000) :
    Calls Tryd.prog 27 #[v] w (ScanT xs w) := by
  by_cases hp : 0 < xs.length
  · obtain ⟨b, o, cap, rfl, g1, g2, hs, -⟩ := hs.spot hp
    have SX := Lib.hid hs
    have HT := Lib.hid hT
    have hm : maxLen = 9223372036854775807 := rfl
    rw [hm] at g2
    generalize hL : xs.length = len at *
    have HL := Lib.hid hL
    have hcl : (len : Int) ≤ cap := by omega
    have hci : (cap : Int) ≤ 9223372036854775807 := by omega
    have hli : (len : Int) ≤ 800000000 := by omega
    have HLEN := Lib.hid hlen
    have HCAP := Lib.hid g2
    clear hs hT hm hL hlen g2
    go_enter Tryd.func27, Tryd.ntmps27
    go_wp2_with fail
    go_loopw [4, 5] (fun r t wr => ∃ (k : Nat) (ls : List Bytes), t = .int .i64 k ∧ At xs ls k ∧ OwnsR w.heap.size wr r ls ∧ Below w.heap.size w wr) (fun _ t _ => len - (intOf t).toNat)
    case atStart => exact ⟨0, [], rfl, At.zero xs, OwnsR.nil _ _, Below.refl _ _⟩
    case round =>
      obtain ⟨k, ls, rfl, hA, hO, hB⟩ := hrel
      have hk : k ≤ len := by rw [← HL.out]; exact hA.2.2.2
      have hki : (k : Int) ≤ len := by omega
      have hkc : (k : Int) ≤ cap := by omega
      have AT := Lib.hid hA
      have RO := Lib.hid hO
      have HB := Lib.hid hB
      have hf := (SX.out.from k (by rw [HL.out]; exact hk)).below HB.out
      clear hA hO hB
      have HF : Hid (Plain.first (xs.drop k) = none ∨ ∃ p, Plain.first (xs.drop k) = some p) := Lib.hid (by cases Plain.first (xs.drop k) with | none => exact .inl rfl | some p => exact .inr ⟨p, rfl⟩)
      have hT1 := HT.out.below HB.out
      rcases HF.out with hn | ⟨p, hn⟩
      · have KF := Lib.hid (first_no hf hT1 (by rw [List.length_drop, HL.out]; have := HLEN.out; omega) hn)
        have ST := Lib.hid (AT.out.stop hn)
        clear hf hT1 hn
        by_cases hcs : cap = k
        · rw [if_pos hcs] at KF
          subst hcs
          obtain rfl : cap = len := by omega
          simp only [Nat.sub_self] at KF
          go_wp2_with fail
          refine KF.out.mono ?_
          rintro e w1 ⟨u, rfl, hb⟩
          have HB1 := Lib.hid (HB.out.trans (hb.mono HB.out.size))
          have RO1 := Lib.hid (RO.out.below hb (Nat.le_refl _))
          clear hb
          go_wp2_with fail
          go_ret2
          exact ⟨_, ls, _, rfl, ST.out, RO1.out, HB1.out⟩
        · rw [if_neg hcs] at KF
          go_wp2_with fail
          refine KF.out.mono ?_
          rintro e w1 ⟨u, rfl, hb⟩
          have HB1 := Lib.hid (HB.out.trans (hb.mono HB.out.size))
          have RO1 := Lib.hid (RO.out.below hb (Nat.le_refl _))
          clear hb
          go_wp2_with fail
          go_ret2
          exact ⟨_, ls, _, rfl, ST.out, RO1.out, HB1.out⟩
      · have KF := Lib.hid (first_yes hf hT1 (by rw [List.length_drop, HL.out]; have := HLEN.out; omega) hn)
        obtain ⟨hA2, hk2, hp2⟩ := AT.out.step hn
        rw [HL.out] at hk2
        have AT2 := Lib.hid hA2
        have hcs : ¬ cap = k := by omega
        rw [if_neg hcs] at KF
        have hpl : (p.length : Int) ≤ 1048576 := by omega
        have hk2i : (k : Int) + (8 + p.length) ≤ len := by omega
        have HK2 := Lib.hid hk2
        have HP2 := Lib.hid hp2
        clear hf hT1 hn hA2 hk2 hp2
        go_wp2_with fail
        refine KF.out.mono ?_
        rintro e w1 ⟨a1, c1, rfl, q1, q2, hsp, hb⟩
        have HB1 := Lib.hid (HB.out.trans (hb.mono HB.out.size))
        have RO1 := Lib.hid (RO.out.below hb (Nat.le_refl _))
        have KC := Lib.hid (clone_some hsp (by have := HP2.out; omega))
        have hq1 : (p.length : Int) ≤ c1 := by omega
        clear hb hsp q1
        go_wp2_with fail
        refine KC.out.mono ?_
        rintro e w2 ⟨v2, rfl, ho2, hb2⟩
        obtain ⟨a2, c2, rfl, q3, q4, ho2, -⟩ := ho2.parts
        have HB2 := Lib.hid (HB1.out.trans (hb2.mono HB1.out.size))
        have RO2 := Lib.hid (RO1.out.below hb2 (Nat.le_refl _))
        have O2 := Lib.hid (ho2.mono HB1.out.size)
        clear hb2 ho2
        obtain ⟨vs, hvs, hov, hel⟩ := (RO2.out.alloc (.cells #[.slice a2 p.length c2] 22))
        have HVS := Lib.hid hvs
        have HOV := Lib.hid hov
        have HEL := Lib.hid hel
        have hmany := AT.out.many
        have HMANY := Lib.hid hmany
        have hsz := HB2.out.size
        clear hvs hov hel hmany
        go_wp2_with (at_builtin; refine wpList_append_row (by rfl) (.tmp 19) (.tmp 22) rfl w.heap.size rfl HOV.out rfl (rowOf_one _ _ _) (one_cell _ _ _) (by have := HMANY.out; have := HVS.out; have := HLEN.out; have := HL.out; simp; omega) (by simp; omega) ?_)
        intro v3 w3 ho3 hg3 _
        have RO3 := Lib.hid (OwnsR.push HVS.out HOV.out HEL.out (O2.out.alloc _) ho3 hg3)
        have HB3 := Lib.hid ((HB2.out.alloc hsz _).grown hg3 (by simp; omega) (fun k hk => (HOV.out.lt k hk).1))
        clear ho3 hg3
        go_wp2_with fail
        go_roundw
        case rel => exact ⟨k + (8 + p.length), ls ++ [p], by go_num, AT2.out, RO3.out, HB3.out⟩
        case measure => simp [intOf]; omega
  · obtain rfl : xs = [] := List.eq_nil_of_length_eq_zero (by omega)
    obtain ⟨a, cap, rfl, -, -, h0, -⟩ := hs.parts
    exact scan_empty a cap w h0
/-- where it is known what is scanned -/
def ScanK (ls : List Bytes) (k : Nat) (w : World) (e : Ending) (w' : World) : Prop := ∃ v, e = .returned (.tuple #[v, .int .i64 (k : Nat)]) ∧ OwnsR w.heap.size w' v ls ∧ Below w.heap.size w w'
theorem scan_of {v : Value} {xs : Bytes} {w : World} (hs : Seq w v xs) (hT : HasTab w) (hlen : xs.length ≤ 800000000) {ls : List Bytes} {k : Nat} (h : Scans xs ls k) :
    Calls Tryd.prog 27 #[v] w (ScanK ls k w) := by
  refine (scan_any hs hT hlen).mono ?_
  rintro e w' ⟨v, ls', k', rfl, hS, ho, hb⟩
  obtain ⟨rfl, rfl⟩ := Scans.fix h hS
  exact ⟨v, rfl, ho, hb⟩
end Go.Proofs.YtehlbddcgnclaaaDoor
