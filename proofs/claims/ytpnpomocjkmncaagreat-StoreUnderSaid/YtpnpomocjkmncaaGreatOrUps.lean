/- The library's heap over the program's own list of places: up, down, Push, Pop. The library's heap over the program's own list of places: down, Pop. (Written by gen-up.py.) -/
import Derived.Test.YtpnpomocjkmncaaGreatOrHps
import Derived.Shelf.Abstract
namespace Go.Proofs.YtpnpomocjkmncaaGreat
open Go.RowKit Plain
set_option linter.unusedVariables false

theorem up_par (k : Nat) : Int.tdiv ((k : Int) - 1) 2 = (((k - 1) / 2 : Nat) : Int) := by
 cases k with
 | zero => rfl
 | succ k =>
  have e : ((k + 1 : Nat) : Int) - 1 = ((k : Nat) : Int) := by omega
  rw [e, show k + 1 - 1 = k from rfl]
  rfl
set_option maxRecDepth 100000 in
set_option maxHeartbeats 4000000 in
theorem hup_any {w : World} {B g b n c : Nat} {lv hv mv : Value} {xs : List Int} (h : HpAt w B g lv hv mv (.slice (some ⟨b, 0, none⟩) n c) xs) (hl : xs.length = n) (hn : n ≤ 1000001) {j : Nat} (hj : j < n) (hu : UpI xs j) :
  Calls Tryz.prog 164 #[.iface 147 (.pointer (some ⟨g, 2, none⟩)), .int .i64 j] w fun e w' => e = .returned (.tuple #[]) ∧ ∃ ys, HpAt w' B g lv hv mv (.slice (some ⟨b, 0, none⟩) n c) ys ∧ IsHeap ys ∧ ys.Perm xs ∧ HpTo g w (.slice (some ⟨b, 0, none⟩) n c) w' (.slice (some ⟨b, 0, none⟩) n c) := by
 have H := Lib.hid h
 have HU := Lib.hid hu
 have NL := Lib.hid (fun W => nless W g)
 have NS := Lib.hid (fun W => nswap W g)
 have eL : ∀ args w, (callFunc 210 args).run Tryz.prog w = .ok (.enter 210 args) w := enters_of Tryz.func210 (by kernel_rfl) rfl
 have eS : ∀ args w, (callFunc 212 args).run Tryz.prog w = .ok (.enter 212 args) w := enters_of Tryz.func212 (by kernel_rfl) rfl
 clear h hu
 go_enter Tryz.func164, Tryz.ntmps164
 go_wp2_with fail
 go_loopw [1] (fun i wr => ∃ (k : Nat) (ys : List Int), k < n ∧ i = .int .i64 k ∧ HpAt wr B g lv hv mv (.slice (some ⟨b, 0, none⟩) n c) ys ∧ UpI ys k ∧ ys.Perm xs ∧ HpTo g w (.slice (some ⟨b, 0, none⟩) n c) wr (.slice (some ⟨b, 0, none⟩) n c)) (fun i _ => (intOf i).toNat)
 case atStart => exact ⟨j, xs, hj, rfl, H.out, HU.out, List.Perm.refl _, HpTo.refl _ _ _⟩
 case round =>
  obtain ⟨k, ys, hk, rfl, hA, hU, hP, hT⟩ := hrel
  have hyl : ys.length = n := by rw [hP.length_eq, hl]
  have HA := Lib.hid hA
  have HU2 := Lib.hid hU
  have HP := Lib.hid hP
  have HT := Lib.hid hT
  have e1 := up_par k
  obtain ⟨p, hp⟩ : ∃ p, p = (k - 1) / 2 := ⟨_, rfl⟩
  rw [← hp] at e1
  have HPP := Lib.hid hp
  obtain ⟨⟨-, -, c2, -⟩, -, -⟩ := hA.cell
  have m1 := mless c2
  have n1 := NL.out wr
  by_cases h0 : k = 0
  ·subst h0
   obtain rfl : p = 0 := by omega
   clear hA hU hP hT hp
   go_wp2_with fail
   go_end0
   exact ⟨rfl, ys, HA.out, HU2.out.stop (.inl rfl), HP.out, HT.out⟩
  ·have hpk : p < k := by omega
   have b1 : ((p : Int) == (k : Int)) = false := by simp; omega
   have KL := Lib.hid (hless_any hA.row (i := k) (j := p) (by omega) (by omega))
   by_cases hlt : hat ys k < hat ys p
   ·have d1 : decide (hat ys k < hat ys p) = true := decide_eq_true hlt
    have HLT := Lib.hid hlt
    rw [d1] at KL
    clear hA hU hP hT hp hlt d1
    go_wp2_with (first
     | (go_at_fn 210; refine KL.out.mono ?_; rintro e w1 ⟨rfl, q, hq⟩; have HA1 : Hid (HpAt w1 B g lv hv mv (.slice (some ⟨b, 0, none⟩) n c) ys) := Lib.hid (by rw [hq]; exact HA.out.drawn q); have HT1 : Hid (HpTo g w (.slice (some ⟨b, 0, none⟩) n c) w1 (.slice (some ⟨b, 0, none⟩) n c)) := Lib.hid (by rw [hq]; exact HT.out.drawn q); have m2 := mswap HA1.out.cell.1.2.2.1; have n2 := NS.out w1; have KS := Lib.hid (hswap_any HA1.out.row (i := p) (j := k) (by omega) (by omega)); clear hq KL m1 n1)
     | (go_at_fn 212; refine KS.out.mono ?_; rintro e w2 ⟨rfl, ho, hb⟩; have HA2 := Lib.hid (HA1.out.swapped ho hb); clear ho hb KS m2 n2))
    have hpe : p = (k - 1) / 2 := HPP.out
    have HU3 : UpI (hswap ys p k) p := by
     have := HU2.out.step (by omega) (by omega) (by rw [← hpe]; exact HLT.out)
     rw [← hpe] at this
     exact this
    have HP3 : (hswap ys p k).Perm xs := (hswap_perm (by omega) (by omega)).trans HP.out
    exact ⟨⟨p, _, by omega, rfl, HA2.out.1, HU3, HP3, HT1.out.trans HA2.out.2⟩, by simp [intOf]; omega⟩
   ·have d1 : decide (hat ys k < hat ys p) = false := decide_eq_false hlt
    have HLT := Lib.hid hlt
    rw [d1] at KL
    clear hA hU hP hT hp hlt d1
    go_wp2_with (go_at_fn 210; refine KL.out.mono ?_; rintro e w1 ⟨rfl, q, rfl⟩)
    go_end0
    have hpe : p = (k - 1) / 2 := HPP.out
    exact ⟨rfl, ys, HA.out.drawn q, HU2.out.stop (.inr (by rw [← hpe]; exact Int.not_lt.2 HLT.out)), HP.out, HT.out.drawn q⟩
set_option maxRecDepth 100000 in
set_option maxHeartbeats 4000000 in
theorem hpush_any {w : World} {B g : Nat} {lv hv mv rv : Value} {xs : List Int} (h : HpAt w B g lv hv mv rv xs) (hp : IsHeap xs) (hB : B ≤ w.heap.size) (x : Int) (hl : xs.length ≤ 1000000) :
  Calls Tryz.prog 129 #[.iface 147 (.pointer (some ⟨g, 2, none⟩)), .iface 3 (.int .i64 x)] w fun e w' => e = .returned (.tuple #[]) ∧ ∃ rv' ys, HpAt w' B g lv hv mv rv' ys ∧ IsHeap ys ∧ ys.Perm (x :: xs) ∧ HpTo g w rv w' rv' := by
 have KP := Lib.hid (ppush_any h hB x hl)
 have HU := Lib.hid (heap_push hp x)
 have HL : Hid ((xs ++ [x]).length = xs.length + 1) := Lib.hid (by simp)
 have NL := Lib.hid (fun W => nlen W g)
 have m1 := mpush w g
 have n1 := npush w g
 have eP : ∀ args w, (callFunc 214 args).run Tryz.prog w = .ok (.enter 214 args) w := enters_of Tryz.func214 (by kernel_rfl) rfl
 have eN : ∀ args w, (callFunc 130 args).run Tryz.prog w = .ok (.enter 130 args) w := enters_of Tryz.func130 (by kernel_rfl) rfl
 have eU : ∀ args w, (callFunc 164 args).run Tryz.prog w = .ok (.enter 164 args) w := enters_of Tryz.func164 (by kernel_rfl) rfl
 clear h hp
 obtain ⟨m, hm⟩ : ∃ m, m = xs.length := ⟨_, rfl⟩
 rw [← hm] at hl HL HU
 clear hm
 go_enter Tryz.func129, Tryz.ntmps129
 go_wp2_with (first
  | (go_at_fn 214; refine KP.out.mono ?_; rintro e w1 ⟨rfl, rv1, h1, t1⟩; have H1 := Lib.hid h1; have T1 := Lib.hid t1; obtain ⟨b, c, rfl, -, -⟩ := h1.spot (by rw [HL.out]; omega); rw [HL.out] at H1 T1; have m2 := mlen H1.out.cell.1.2.2.1; have n2 := NL.out w1; clear h1 t1 m1 n1 KP)
  | (go_at_fn 130; refine (hlen_any _ _ _ _).mono ?_; rintro e w2 ⟨rfl, rfl⟩)
  | (go_at_fn 164; refine (hup_any H1.out HL.out (by omega) (Nat.lt_succ_self m) HU.out).mono ?_; rintro e w2 ⟨rfl, ys, h2, i2, p2, t2⟩; have R := Lib.hid (And.intro h2 (And.intro i2 (And.intro p2 t2))); clear h2 i2 p2 t2))
 go_end0
 obtain ⟨h2, i2, p2, t2⟩ := R.out
 exact ⟨rfl, _, ys, h2, i2, p2.trans (List.perm_append_singleton x xs), T1.out.trans t2⟩
end Go.Proofs.YtpnpomocjkmncaaGreat
namespace Go.Proofs.YtpnpomocjkmncaaGreat
open Go.RowKit Plain
set_option linter.unusedVariables false

set_option maxRecDepth 100000 in
set_option maxHeartbeats 8000000 in
theorem hdown_any {w : World} {B g b n c : Nat} {lv hv mv : Value} {xs : List Int} (h : HpAt w B g lv hv mv (.slice (some ⟨b, 0, none⟩) n c) xs) (hl : xs.length = n) (hn : n ≤ 1000001) {m : Nat} (hm : m ≤ n) (hu : DnI m xs 0) (h0 : 0 < n) :
  Calls Tryz.prog 165 #[.iface 147 (.pointer (some ⟨g, 2, none⟩)), .int .i64 0, .int .i64 m] w fun e w' => (∃ bb : Value, e = .returned bb) ∧ ∃ ys, HpAt w' B g lv hv mv (.slice (some ⟨b, 0, none⟩) n c) ys ∧ HeapTo m ys ∧ ys.Perm xs ∧ (∀ k, m ≤ k → hat ys k = hat xs k) ∧ HpTo g w (.slice (some ⟨b, 0, none⟩) n c) w' (.slice (some ⟨b, 0, none⟩) n c) := by
 have H := Lib.hid h
 have HU := Lib.hid hu
 have NL := Lib.hid (fun W => nless W g)
 have NS := Lib.hid (fun W => nswap W g)
 have eL : ∀ args w, (callFunc 210 args).run Tryz.prog w = .ok (.enter 210 args) w := enters_of Tryz.func210 (by kernel_rfl) rfl
 have eS : ∀ args w, (callFunc 212 args).run Tryz.prog w = .ok (.enter 212 args) w := enters_of Tryz.func212 (by kernel_rfl) rfl
 clear h hu
 go_enter Tryz.func165, Tryz.ntmps165
 go_wp2_with fail
 go_loopw [7] (fun i wr => ∃ (k : Nat) (ys : List Int), k < n ∧ i = .int .i64 k ∧ HpAt wr B g lv hv mv (.slice (some ⟨b, 0, none⟩) n c) ys ∧ DnI m ys k ∧ ys.Perm xs ∧ (∀ k, m ≤ k → hat ys k = hat xs k) ∧ HpTo g w (.slice (some ⟨b, 0, none⟩) n c) wr (.slice (some ⟨b, 0, none⟩) n c)) (fun i _ => n - (intOf i).toNat)
 case atStart => exact ⟨0, xs, h0, rfl, H.out, HU.out, List.Perm.refl _, fun _ _ => rfl, HpTo.refl _ _ _⟩
 case round =>
  obtain ⟨k, ys, hk, rfl, hA, hU, hP, hE, hT⟩ := hrel
  have hyl : ys.length = n := by rw [hP.length_eq, hl]
  have HA := Lib.hid hA
  have HU2 := Lib.hid hU
  have HP := Lib.hid hP
  have HE := Lib.hid hE
  have HT := Lib.hid hT
  obtain ⟨⟨-, -, c2, -⟩, -, -⟩ := hA.cell
  have m1 := mless c2
  have n1 := NL.out wr
  clear hA hU hP hE hT c2
  by_cases hj1 : 2 * k + 1 < m
  ·have e0 : ((2 * k + 1 : Nat) : Int) < (m : Int) := by omega
   by_cases hj2 : 2 * k + 2 < m
   ·by_cases hc : hat ys (2 * k + 2) < hat ys (2 * k + 1)
    ·skip
     have KL := Lib.hid (fun (W : World) (hW : HpAt W B g lv hv mv (.slice (some ⟨b, 0, none⟩) n c) ys) => hless_any hW.row (i := 2 * k + 2) (j := k) (by omega) (by omega))
     have K1 := Lib.hid (hless_any HA.out.row (i := 2 * k + 2) (j := 2 * k + 1) (by omega) (by omega))
     rw [show decide (hat ys (2 * k + 2) < hat ys (2 * k + 1)) = true from decide_eq_true hc] at K1
     have HM : Hid (∀ x, 0 < x → x < m → (x - 1) / 2 = k → hat ys (2 * k + 2) ≤ hat ys x) := Lib.hid (fun x h1 h2 h3 => by
      have hx : x = 2 * k + 1 ∨ x = 2 * k + 2 := by omega
      rcases hx with rfl | rfl
      ·exact Int.le_of_lt hc
      ·exact Int.le_refl _)
     clear hc
     by_cases hd : hat ys (2 * k + 2) < hat ys k
     ·have DD : decide (hat ys (2 * k + 2) < hat ys k) = true := decide_eq_true hd
      have HD := Lib.hid hd
      clear hd
      go_wp2_with (first
       | (go_at_fn 210; refine K1.out.mono ?_; rintro e w1 ⟨rfl, q, hq⟩; have HA1 : Hid (HpAt w1 B g lv hv mv (.slice (some ⟨b, 0, none⟩) n c) ys) := Lib.hid (by rw [hq]; exact HA.out.drawn q); have HT1 : Hid (HpTo g w (.slice (some ⟨b, 0, none⟩) n c) w1 (.slice (some ⟨b, 0, none⟩) n c)) := Lib.hid (by rw [hq]; exact HT.out.drawn q); have m2 := mless HA1.out.cell.1.2.2.1; have n2 := NL.out w1; have K2 := Lib.hid (KL.out w1 HA1.out); clear hq K1 m1 n1 KL; rw [DD] at K2)
       | (go_at_fn 210; refine K2.out.mono ?_; rintro e w2 ⟨rfl, q2, hq⟩; have HA2 : Hid (HpAt w2 B g lv hv mv (.slice (some ⟨b, 0, none⟩) n c) ys) := Lib.hid (by rw [hq]; exact HA1.out.drawn q2); have HT2 : Hid (HpTo g w (.slice (some ⟨b, 0, none⟩) n c) w2 (.slice (some ⟨b, 0, none⟩) n c)) := Lib.hid (by rw [hq]; exact HT1.out.drawn q2); have m3 := mswap HA2.out.cell.1.2.2.1; have n3 := NS.out w2; have KS := Lib.hid (hswap_any HA2.out.row (i := k) (j := 2 * k + 2) (by omega) (by omega)); clear hq K2 m2 n2)
       | (go_at_fn 212; refine KS.out.mono ?_; rintro e w3 ⟨rfl, ho, hb⟩; have HA3 := Lib.hid (HA2.out.swapped ho hb); clear ho hb KS m3 n3))
      have HU3 := HU2.out.step (by omega) (show 0 < 2 * k + 2 by omega) (by omega) (by omega) HD.out HM.out
      have HP3 : (hswap ys k (2 * k + 2)).Perm xs := (hswap_perm (by omega) (by omega)).trans HP.out
      have HE3 : ∀ x, m ≤ x → hat (hswap ys k (2 * k + 2)) x = hat xs x := fun x hx => by rw [hat_swap (by omega) (by omega), if_neg (by omega), if_neg (by omega)]; exact HE.out x hx
      exact ⟨⟨2 * k + 2, _, by omega, by go_num, HA3.out.1, HU3, HP3, HE3, HT2.out.trans HA3.out.2⟩, by simp [intOf]; omega⟩
     ·have DD : decide (hat ys (2 * k + 2) < hat ys k) = false := decide_eq_false hd
      have HD := Lib.hid hd
      clear hd
      go_wp2_with (first
       | (go_at_fn 210; refine K1.out.mono ?_; rintro e w1 ⟨rfl, q, hq⟩; have HA1 : Hid (HpAt w1 B g lv hv mv (.slice (some ⟨b, 0, none⟩) n c) ys) := Lib.hid (by rw [hq]; exact HA.out.drawn q); have HT1 : Hid (HpTo g w (.slice (some ⟨b, 0, none⟩) n c) w1 (.slice (some ⟨b, 0, none⟩) n c)) := Lib.hid (by rw [hq]; exact HT.out.drawn q); have m2 := mless HA1.out.cell.1.2.2.1; have n2 := NL.out w1; have K2 := Lib.hid (KL.out w1 HA1.out); clear hq K1 m1 n1 KL; rw [DD] at K2)
       | (go_at_fn 210; refine K2.out.mono ?_; rintro e w2 ⟨rfl, q2, hq⟩; have HA2 : Hid (HpAt w2 B g lv hv mv (.slice (some ⟨b, 0, none⟩) n c) ys) := Lib.hid (by rw [hq]; exact HA1.out.drawn q2); have HT2 : Hid (HpTo g w (.slice (some ⟨b, 0, none⟩) n c) w2 (.slice (some ⟨b, 0, none⟩) n c)) := Lib.hid (by rw [hq]; exact HT1.out.drawn q2); clear hq K2 m2 n2))
      go_ret
      exact ⟨⟨_, rfl⟩, ys, HA2.out, HU2.out.stop fun x h1 h2 h3 => Int.le_trans HD.out (HM.out x h1 h2 h3), HP.out, HE.out, HT2.out⟩
    ·skip
     have KL := Lib.hid (fun (W : World) (hW : HpAt W B g lv hv mv (.slice (some ⟨b, 0, none⟩) n c) ys) => hless_any hW.row (i := 2 * k + 1) (j := k) (by omega) (by omega))
     have K1 := Lib.hid (hless_any HA.out.row (i := 2 * k + 2) (j := 2 * k + 1) (by omega) (by omega))
     rw [show decide (hat ys (2 * k + 2) < hat ys (2 * k + 1)) = false from decide_eq_false hc] at K1
     have HM : Hid (∀ x, 0 < x → x < m → (x - 1) / 2 = k → hat ys (2 * k + 1) ≤ hat ys x) := Lib.hid (fun x h1 h2 h3 => by
      have hx : x = 2 * k + 1 ∨ x = 2 * k + 2 := by omega
      rcases hx with rfl | rfl
      ·exact Int.le_refl _
      ·exact Int.not_lt.1 hc)
     clear hc
     by_cases hd : hat ys (2 * k + 1) < hat ys k
     ·have DD : decide (hat ys (2 * k + 1) < hat ys k) = true := decide_eq_true hd
      have HD := Lib.hid hd
      clear hd
      go_wp2_with (first
       | (go_at_fn 210; refine K1.out.mono ?_; rintro e w1 ⟨rfl, q, hq⟩; have HA1 : Hid (HpAt w1 B g lv hv mv (.slice (some ⟨b, 0, none⟩) n c) ys) := Lib.hid (by rw [hq]; exact HA.out.drawn q); have HT1 : Hid (HpTo g w (.slice (some ⟨b, 0, none⟩) n c) w1 (.slice (some ⟨b, 0, none⟩) n c)) := Lib.hid (by rw [hq]; exact HT.out.drawn q); have m2 := mless HA1.out.cell.1.2.2.1; have n2 := NL.out w1; have K2 := Lib.hid (KL.out w1 HA1.out); clear hq K1 m1 n1 KL; rw [DD] at K2)
       | (go_at_fn 210; refine K2.out.mono ?_; rintro e w2 ⟨rfl, q2, hq⟩; have HA2 : Hid (HpAt w2 B g lv hv mv (.slice (some ⟨b, 0, none⟩) n c) ys) := Lib.hid (by rw [hq]; exact HA1.out.drawn q2); have HT2 : Hid (HpTo g w (.slice (some ⟨b, 0, none⟩) n c) w2 (.slice (some ⟨b, 0, none⟩) n c)) := Lib.hid (by rw [hq]; exact HT1.out.drawn q2); have m3 := mswap HA2.out.cell.1.2.2.1; have n3 := NS.out w2; have KS := Lib.hid (hswap_any HA2.out.row (i := k) (j := 2 * k + 1) (by omega) (by omega)); clear hq K2 m2 n2)
       | (go_at_fn 212; refine KS.out.mono ?_; rintro e w3 ⟨rfl, ho, hb⟩; have HA3 := Lib.hid (HA2.out.swapped ho hb); clear ho hb KS m3 n3))
      have HU3 := HU2.out.step (by omega) (show 0 < 2 * k + 1 by omega) (by omega) (by omega) HD.out HM.out
      have HP3 : (hswap ys k (2 * k + 1)).Perm xs := (hswap_perm (by omega) (by omega)).trans HP.out
      have HE3 : ∀ x, m ≤ x → hat (hswap ys k (2 * k + 1)) x = hat xs x := fun x hx => by rw [hat_swap (by omega) (by omega), if_neg (by omega), if_neg (by omega)]; exact HE.out x hx
      exact ⟨⟨2 * k + 1, _, by omega, by go_num, HA3.out.1, HU3, HP3, HE3, HT2.out.trans HA3.out.2⟩, by simp [intOf]; omega⟩
     ·have DD : decide (hat ys (2 * k + 1) < hat ys k) = false := decide_eq_false hd
      have HD := Lib.hid hd
      clear hd
      go_wp2_with (first
       | (go_at_fn 210; refine K1.out.mono ?_; rintro e w1 ⟨rfl, q, hq⟩; have HA1 : Hid (HpAt w1 B g lv hv mv (.slice (some ⟨b, 0, none⟩) n c) ys) := Lib.hid (by rw [hq]; exact HA.out.drawn q); have HT1 : Hid (HpTo g w (.slice (some ⟨b, 0, none⟩) n c) w1 (.slice (some ⟨b, 0, none⟩) n c)) := Lib.hid (by rw [hq]; exact HT.out.drawn q); have m2 := mless HA1.out.cell.1.2.2.1; have n2 := NL.out w1; have K2 := Lib.hid (KL.out w1 HA1.out); clear hq K1 m1 n1 KL; rw [DD] at K2)
       | (go_at_fn 210; refine K2.out.mono ?_; rintro e w2 ⟨rfl, q2, hq⟩; have HA2 : Hid (HpAt w2 B g lv hv mv (.slice (some ⟨b, 0, none⟩) n c) ys) := Lib.hid (by rw [hq]; exact HA1.out.drawn q2); have HT2 : Hid (HpTo g w (.slice (some ⟨b, 0, none⟩) n c) w2 (.slice (some ⟨b, 0, none⟩) n c)) := Lib.hid (by rw [hq]; exact HT1.out.drawn q2); clear hq K2 m2 n2))
      go_ret
      exact ⟨⟨_, rfl⟩, ys, HA2.out, HU2.out.stop fun x h1 h2 h3 => Int.le_trans HD.out (HM.out x h1 h2 h3), HP.out, HE.out, HT2.out⟩
   ·skip
    have KL := Lib.hid (fun (W : World) (hW : HpAt W B g lv hv mv (.slice (some ⟨b, 0, none⟩) n c) ys) => hless_any hW.row (i := 2 * k + 1) (j := k) (by omega) (by omega))
    have HM : Hid (∀ x, 0 < x → x < m → (x - 1) / 2 = k → hat ys (2 * k + 1) ≤ hat ys x) := Lib.hid (fun x h1 h2 h3 => by
     have hx : x = 2 * k + 1 ∨ x = 2 * k + 2 := by omega
     rcases hx with rfl | rfl
     ·exact Int.le_refl _
     ·omega)
    have HA1 := Lib.hid HA.out
    have HT1 := Lib.hid HT.out
    have K2 := Lib.hid (KL.out wr HA1.out)
    clear KL
    by_cases hd : hat ys (2 * k + 1) < hat ys k
    ·have DD : decide (hat ys (2 * k + 1) < hat ys k) = true := decide_eq_true hd
     have HD := Lib.hid hd
     clear hd
     rw [DD] at K2
     clear DD
     go_wp2_with (first
      | (go_at_fn 210; refine K2.out.mono ?_; rintro e w2 ⟨rfl, q2, hq⟩; have HA2 : Hid (HpAt w2 B g lv hv mv (.slice (some ⟨b, 0, none⟩) n c) ys) := Lib.hid (by rw [hq]; exact HA1.out.drawn q2); have HT2 : Hid (HpTo g w (.slice (some ⟨b, 0, none⟩) n c) w2 (.slice (some ⟨b, 0, none⟩) n c)) := Lib.hid (by rw [hq]; exact HT1.out.drawn q2); have m3 := mswap HA2.out.cell.1.2.2.1; have n3 := NS.out w2; have KS := Lib.hid (hswap_any HA2.out.row (i := k) (j := 2 * k + 1) (by omega) (by omega)); clear hq K2 m1 n1)
      | (go_at_fn 212; refine KS.out.mono ?_; rintro e w3 ⟨rfl, ho, hb⟩; have HA3 := Lib.hid (HA2.out.swapped ho hb); clear ho hb KS m3 n3))
     have HU3 := HU2.out.step (by omega) (show 0 < 2 * k + 1 by omega) (by omega) (by omega) HD.out HM.out
     have HP3 : (hswap ys k (2 * k + 1)).Perm xs := (hswap_perm (by omega) (by omega)).trans HP.out
     have HE3 : ∀ x, m ≤ x → hat (hswap ys k (2 * k + 1)) x = hat xs x := fun x hx => by rw [hat_swap (by omega) (by omega), if_neg (by omega), if_neg (by omega)]; exact HE.out x hx
     exact ⟨⟨2 * k + 1, _, by omega, by go_num, HA3.out.1, HU3, HP3, HE3, HT2.out.trans HA3.out.2⟩, by simp [intOf]; omega⟩
    ·have DD : decide (hat ys (2 * k + 1) < hat ys k) = false := decide_eq_false hd
     have HD := Lib.hid hd
     clear hd
     rw [DD] at K2
     clear DD
     go_wp2_with (first
      | (go_at_fn 210; refine K2.out.mono ?_; rintro e w2 ⟨rfl, q2, hq⟩; have HA2 : Hid (HpAt w2 B g lv hv mv (.slice (some ⟨b, 0, none⟩) n c) ys) := Lib.hid (by rw [hq]; exact HA1.out.drawn q2); have HT2 : Hid (HpTo g w (.slice (some ⟨b, 0, none⟩) n c) w2 (.slice (some ⟨b, 0, none⟩) n c)) := Lib.hid (by rw [hq]; exact HT1.out.drawn q2); clear hq K2 m1 n1))
     go_ret
     exact ⟨⟨_, rfl⟩, ys, HA2.out, HU2.out.stop fun x h1 h2 h3 => Int.le_trans HD.out (HM.out x h1 h2 h3), HP.out, HE.out, HT2.out⟩
  ·go_wp2_with fail
   go_ret
   exact ⟨⟨_, rfl⟩, ys, HA.out, HU2.out.stop fun x h1 h2 h3 => by omega, HP.out, HE.out, HT.out⟩

set_option maxRecDepth 100000 in
set_option maxHeartbeats 4000000 in
theorem hpop_any {w : World} {B g : Nat} {lv hv mv rv : Value} {xs : List Int} (h : HpAt w B g lv hv mv rv xs) (hp : IsHeap xs) (m : Nat) (hl : xs.length = m + 1) (hm : m ≤ 1000000) :
  Calls Tryz.prog 131 #[.iface 147 (.pointer (some ⟨g, 2, none⟩))] w fun e w' => ∃ x rv' ys, e = .returned (.iface 3 (.int .i64 x)) ∧ HpAt w' B g lv hv mv rv' ys ∧ IsHeap ys ∧ xs.Perm (x :: ys) ∧ (∀ y ∈ xs, x ≤ y) ∧ HpTo g w rv w' rv' := by
 obtain ⟨b, c, rfl, -, -⟩ := h.spot (by omega)
 rw [hl] at h ⊢
 have HE : Hid (hat (hswap xs 0 m) m = hat xs 0) := Lib.hid (by rw [hat_swap (by omega) (by omega), if_pos rfl])
 have HU : Hid (DnI m (hswap xs 0 m) 0) := Lib.hid (by have := heap_pop hp (by omega); rw [hl] at this; exact this)
 have HL : Hid ((hswap xs 0 m).length = m + 1) := Lib.hid (by rw [hswap_len, hl])
 have HP : Hid ((hswap xs 0 m).Perm xs) := Lib.hid (hswap_perm (by omega) (by omega))
 have HM : Hid (∀ y ∈ xs, hat xs 0 ≤ y) := Lib.hid (fun y hy => by
  obtain ⟨i, hi, rfl⟩ := mem_hat hy
  exact HeapTo.least hp i hi)
 have KS := Lib.hid (hswap_any h.row (i := 0) (j := m) (by omega) (by omega))
 have HH := Lib.hid h
 have m1 := mlen h.cell.1.2.2.1
 have n1 := nlen w g
 have m2 := mswap h.cell.1.2.2.1
 have n2 := nswap w g
 have eN : ∀ args w, (callFunc 130 args).run Tryz.prog w = .ok (.enter 130 args) w := enters_of Tryz.func130 (by kernel_rfl) rfl
 have eS : ∀ args w, (callFunc 212 args).run Tryz.prog w = .ok (.enter 212 args) w := enters_of Tryz.func212 (by kernel_rfl) rfl
 have eD : ∀ args w, (callFunc 165 args).run Tryz.prog w = .ok (.enter 165 args) w := enters_of Tryz.func165 (by kernel_rfl) rfl
 have eP : ∀ args w, (callFunc 213 args).run Tryz.prog w = .ok (.enter 213 args) w := enters_of Tryz.func213 (by kernel_rfl) rfl
 clear h hp
 generalize hX : hat xs 0 = x0 at *
 clear hX hl
 generalize hswap xs 0 m = zs at *
 go_enter Tryz.func131, Tryz.ntmps131
 go_wp2_with (first
  | (go_at_fn 130; refine (hlen_any _ _ _ _).mono ?_; rintro e w2 ⟨rfl, rfl⟩)
  | (go_at_fn 212; refine KS.out.mono ?_; rintro e w1 ⟨rfl, ho, hb⟩; have H1 := Lib.hid (HH.out.swapped ho hb); clear ho hb KS m1 n1 m2 n2)
  | (go_at_fn 165; refine (hdown_any H1.out.1 HL.out (by omega) (Nat.le_succ m) HU.out (by omega)).mono ?_; rintro e w2 ⟨⟨bb, rfl⟩, ys, h2, i2, p2, x2, t2⟩; have m3 := mpop w2 g; have n3 := npop w2 g; have KP := Lib.hid (ppop_any h2 m (by rw [p2.length_eq, HL.out])); have R := Lib.hid (And.intro i2 (And.intro p2 (And.intro (x2 m (Nat.le_refl m)) t2))); clear h2 i2 p2 x2 t2)
  | (go_at_fn 213; refine KP.out.mono ?_; rintro e w3 ⟨rfl, rv3, h3, t3⟩; have R3 := Lib.hid (And.intro h3 t3); clear h3 t3 KP m3 n3))
 go_ret
 obtain ⟨i2, p2, x2, t2⟩ := R.out
 obtain ⟨h3, t3⟩ := R3.out
 have e0 : hat ys m = x0 := x2.trans HE.out
 have hy : ys.length = m + 1 := by rw [p2.length_eq, HL.out]
 refine ⟨x0, rv3, ys.take m, by rw [e0]; rfl, h3, heap_take i2 (by omega), ?_, HM.out, (H1.out.2.trans t2).trans t3⟩
 have e1 := take_last hy
 rw [e0] at e1
 have q : ys.Perm (x0 :: ys.take m) := by
  conv => lhs; rw [e1]
  exact List.perm_append_singleton _ _
 exact (HP.out.symm.trans p2.symm).trans q
end Go.Proofs.YtpnpomocjkmncaaGreat
