/- What the document's own functions of texts leave: Begins, Prefix, Key, Covers. What the document's own Once of texts leaves: the least that is greater than the last one, again and again. What the document's own Once of texts leaves (the walk). -/
import Derived.Test.YtkanklppgioacaaGreatTWords
import Derived.BigQuiet
import Derived.Deep.LoopGhost
namespace Go.Proofs.YtkanklppgioacaaGreat
open Go.RowKit Plain
set_option linter.unusedVariables false

theorem beg_false {s p : Txt} (k : Nat) (hk : k < p.length) (h : s.getD k 0 ≠ p.getD k 0) (hs : k < s.length) : beg s p = false := by
 cases e : beg s p with
 | false => rfl
 | true =>
  obtain ⟨t, ht⟩ := beg_iff.1 e
  exfalso
  apply h
  subst ht
  simp [List.getD, List.getElem?_append_left hk]
theorem beg_true {s p : Txt} (hl : p.length ≤ s.length) (h : ∀ k, k < p.length → s.getD k 0 = p.getD k 0) : beg s p = true := by
 refine beg_iff.2 ((List.prefix_iff_eq_take).2 ?_)
 refine List.ext_getElem (by rw [List.length_take]; omega) fun i h1 h2 => ?_
 have := h i h1
 rw [List.getElem_take]
 simpa [List.getD, List.getElem?_eq_getElem h1, List.getElem?_eq_getElem (show i < s.length by omega)] using this.symm
theorem beg_long {s p : Txt} (hl : s.length < p.length) : beg s p = false := by
 cases e : beg s p with
 | false => rfl
 | true =>
  have := (beg_iff.1 e).length_le
  omega
theorem u8_ne {a b : UInt8} (h : a ≠ b) : ((a.toNat : Int) != (b.toNat : Int)) = true := bne_iff_ne.2 fun e => h (UInt8.toNat_inj.1 (by omega))
theorem u8_lt (a : UInt8) : a.toNat < 256 := UInt8.toNat_lt a

set_option maxRecDepth 100000 in
set_option maxHeartbeats 2000000 in
/-- Begins -/
theorem rbegins_any (s p : Txt) (hs : s.length ≤ 1000000) (hp : p.length ≤ 1000000) (w : World) :
  Calls Tryz.prog 92 #[.string (bt s), .string (bt p)] w fun e w' => e = .returned (.bool (beg s p)) ∧ ∃ n, w' = w.drewN n := by
 have z1 := bt_size s
 have z2 := bt_size p
 by_cases hl : s.length < p.length
 ·rw [beg_long hl]
  generalize bt s = S at *
  generalize bt p = Q at *
  go_enter Tryz.func92, Tryz.ntmps92
  go_wp2_with fail
  go_ret
  exact ⟨rfl, 0, rfl⟩
 ·have HF := Lib.hid (fun k hk h hs => beg_false (s := s) (p := p) k hk h hs)
  have HT := Lib.hid (beg_true (s := s) (p := p) (by omega))
  generalize beg s p = r at *
  have I1 := Lib.hid (index_run s)
  have I2 := Lib.hid (index_run p)
  generalize bt s = S at *
  generalize bt p = Q at *
  go_enter Tryz.func92, Tryz.ntmps92
  go_wp2_with fail
  go_loopw [5] (fun i wr => ∃ k : Nat, k ≤ p.length ∧ i = .int .i64 k ∧ (∀ j, j < k → s.getD j 0 = p.getD j 0) ∧ ∃ n, wr = w.drewN n) (fun i _ => p.length - (intOf i).toNat)
  case atStart => exact ⟨0, Nat.zero_le _, rfl, fun j hj => absurd hj (by omega), 0, rfl⟩
  case round =>
   obtain ⟨k, hk, rfl, hall, n, rfl⟩ := hrel
   have HA := Lib.hid hall
   clear hall
   by_cases hlt : k < p.length
   ·have i1 := I1.out k (by omega)
    have i2 := I2.out k hlt
    by_cases he : s.getD k 0 = p.getD k 0
    ·have HA2 : Hid (∀ j, j < k + 1 → s.getD j 0 = p.getD j 0) := Lib.hid (fun j hj => by
      by_cases h : j < k
      ·exact HA.out j h
      ·obtain rfl : j = k := by omega
       exact he)
     rw [he] at i1
     clear he
     have hx := u8_lt (p.getD k 0)
     generalize (p.getD k 0).toNat = x at *
     go_wp2_with fail
     go_quiet (fail)
     go_wp2_with fail
     go_roundw
     case rel => exact ⟨k + 1, by omega, by go_num, HA2.out, _, rfl⟩
     case measure => simp [intOf]; omega
    ·have hb := u8_ne he
     obtain rfl : r = false := HF.out k hlt he (by omega)
     clear he
     generalize (p.getD k 0).toNat = x at *
     generalize (s.getD k 0).toNat = y at *
     go_wp2_with fail
     go_quiet (fail)
     go_wp2_with fail
     go_ret
     exact ⟨rfl, _, World.drewN_drewN _ _ _⟩
   ·obtain rfl : k = p.length := by omega
    obtain rfl : r = true := HT.out HA.out
    go_wp2_with fail
    go_ret
    exact ⟨rfl, _, rfl⟩

theorem ok_of {c : UInt8} (h : c.toNat = 47 ∨ (48 ≤ c.toNat ∧ c.toNat ≤ 57) ∨ (97 ≤ c.toNat ∧ c.toNat ≤ 122)) : okByte c = true := by
 unfold okByte
 simp only [Bool.or_eq_true, Bool.and_eq_true, beq_iff_eq, decide_eq_true_eq, UInt8.le_iff_toNat_le]
 rcases h with h | h | h
 ·exact .inl (.inl (UInt8.toNat_inj.1 h))
 ·exact .inl (.inr h)
 ·exact .inr h
theorem ok_not {c : UInt8} (h : ¬ (c.toNat = 47 ∨ (48 ≤ c.toNat ∧ c.toNat ≤ 57) ∨ (97 ≤ c.toNat ∧ c.toNat ≤ 122))) : okByte c = false := by
 cases e : okByte c with
 | false => rfl
 | true =>
  exfalso
  apply h
  unfold okByte at e
  simp only [Bool.or_eq_true, Bool.and_eq_true, beq_iff_eq, decide_eq_true_eq, UInt8.le_iff_toNat_le] at e
  rcases e with (e | e) | e
  ·subst e; exact .inl rfl
  ·exact .inr (.inl e)
  ·exact .inr (.inr e)
theorem prefix_true {s : Txt} (hl : s.length ≤ 16) (h : ∀ k, k < s.length → okByte (s.getD k 0) = true) : prefixB s = true := by
 unfold prefixB
 rw [Bool.and_eq_true, List.all_eq_true]
 refine ⟨fun c hc => ?_, decide_eq_true hl⟩
 obtain ⟨k, hk, rfl⟩ := List.getElem_of_mem hc
 have := h k hk
 simpa [List.getD, List.getElem?_eq_getElem hk] using this
theorem prefix_false {s : Txt} (k : Nat) (hk : k < s.length) (h : okByte (s.getD k 0) = false) : prefixB s = false := by
 cases e : prefixB s with
 | false => rfl
 | true =>
  unfold prefixB at e
  rw [Bool.and_eq_true, List.all_eq_true] at e
  have := e.1 _ (List.getElem_mem hk)
  simp [List.getD, List.getElem?_eq_getElem hk, this] at h
theorem prefix_long {s : Txt} (hl : ¬ s.length ≤ 16) : prefixB s = false := by unfold prefixB; rw [decide_eq_false hl, Bool.and_false]

set_option maxRecDepth 100000 in
set_option maxHeartbeats 4000000 in
/-- Prefix -/
theorem rprefix_any (s : Txt) (hs : s.length ≤ 9223372036854775807) (w : World) :
  Calls Tryz.prog 84 #[.string (bt s)] w fun e w' => e = .returned (.bool (prefixB s)) ∧ w = w' := by
 have z1 := bt_size s
 have HF := Lib.hid (fun k hk h => prefix_false (s := s) k hk h)
 have HT := Lib.hid (prefix_true (s := s))
 have HL := Lib.hid (prefix_long (s := s))
 have I1 := Lib.hid (index_run s)
 generalize prefixB s = r at *
 generalize bt s = S at *
 go_enter Tryz.func84, Tryz.ntmps84
 go_wp2_with fail
 go_loop [3, 4] (fun i _ => ∃ k : Nat, k ≤ s.length ∧ i = .int .i64 k ∧ ∀ j, j < k → okByte (s.getD j 0) = true) (fun i _ => s.length - (intOf i).toNat)
 case atStart => exact ⟨0, Nat.zero_le _, rfl, fun j hj => absurd hj (by omega)⟩
 case round =>
  obtain ⟨k, hk, rfl, hall⟩ := hrel
  have HA := Lib.hid hall
  clear hall
  by_cases hlt : k < s.length
  ·have i1 := I1.out k hlt
   by_cases he : (s.getD k 0).toNat = 47 ∨ (48 ≤ (s.getD k 0).toNat ∧ (s.getD k 0).toNat ≤ 57) ∨ (97 ≤ (s.getD k 0).toNat ∧ (s.getD k 0).toNat ≤ 122)
   ·have HA2 : Hid (∀ j, j < k + 1 → okByte (s.getD j 0) = true) := Lib.hid (fun j hj => by
      by_cases h : j < k
      ·exact HA.out j h
      ·obtain rfl : j = k := by omega
       exact ok_of he)
    have hx := u8_lt (s.getD k 0)
    generalize (s.getD k 0).toNat = x at *
    rcases he with he | ⟨h1, h2⟩ | ⟨h1, h2⟩
    ·subst he
     go_wp2_with fail
     go_round
     case rel => exact ⟨k + 1, by omega, by go_num, HA2.out⟩
     case measure => simp [intOf]; omega
    ·have b1 : ((x : Int) == 47) = false := by simp; omega
     go_wp2_with fail
     go_round
     case rel => exact ⟨k + 1, by omega, by go_num, HA2.out⟩
     case measure => simp [intOf]; omega
    ·have b1 : ((x : Int) == 47) = false := by simp; omega
     have b2 : ¬ (x : Int) ≤ 57 := by omega
     have b3 : (48 : Int) ≤ x := by omega
     have b4 : (97 : Int) ≤ x := by omega
     have b5 : (x : Int) ≤ 122 := by omega
     clear h1 h2
     go_wp2_with fail
     exact ⟨⟨k + 1, by omega, by go_num, HA2.out⟩, by simp [intOf]; omega⟩
   ·obtain rfl : r = false := HF.out k hlt (ok_not he)
    have hx := u8_lt (s.getD k 0)
    generalize (s.getD k 0).toNat = x at *
    have b1 : ((x : Int) == 47) = false := by simp; omega
    by_cases h1 : x < 48
    ·clear he
     have b2 : ¬ (48 : Int) ≤ x := by omega
     have b3 : ¬ (97 : Int) ≤ x := by omega
     go_wp2_with fail
     go_ret
     exact ⟨rfl, rfl⟩
    ·by_cases h2 : x < 97
     ·have b2 : (48 : Int) ≤ x := by omega
      have b3 : ¬ (x : Int) ≤ 57 := by omega
      have b4 : ¬ (97 : Int) ≤ x := by omega
      clear he
      go_wp2_with fail
      go_ret
      exact ⟨rfl, rfl⟩
     ·have b2 : (48 : Int) ≤ x := by omega
      have b3 : ¬ (x : Int) ≤ 57 := by omega
      have b4 : (97 : Int) ≤ x := by omega
      have b5 : ¬ (x : Int) ≤ 122 := by omega
      clear he
      go_wp2_with fail
      go_ret
      exact ⟨rfl, rfl⟩
  ·obtain rfl : k = s.length := by omega
   by_cases hl : s.length ≤ 16
   ·obtain rfl : r = true := HT.out hl HA.out
    have hd : decide ((s.length : Int) ≤ 16) = true := decide_eq_true (by omega)
    go_wp2_with fail
    go_ret
    exact ⟨rfl, rfl⟩
   ·obtain rfl : r = false := HL.out hl
    have hd : decide ((s.length : Int) ≤ 16) = false := decide_eq_false (by omega)
    go_wp2_with fail
    go_ret
    exact ⟨rfl, rfl⟩

set_option maxRecDepth 100000 in
set_option maxHeartbeats 1000000 in
/-- Key -/
theorem rkey_any (s : Txt) (hs : s.length ≤ 9223372036854775807) (w : World) :
  Calls Tryz.prog 83 #[.string (bt s)] w fun e w' => e = .returned (.bool (keyB s)) ∧ w = w' := by
 have z1 := bt_size s
 have K := rprefix_any s hs w
 have hk : keyB s = (decide (0 < s.length) && prefixB s) := rfl
 generalize prefixB s = r at *
 generalize bt s = S at *
 rw [hk]
 clear hk
 by_cases h : 0 < s.length
 ·rw [decide_eq_true h, Bool.true_and]
  have h' : (0 : Int) < s.length := by omega
  go_enter Tryz.func83, Tryz.ntmps83
  go_wp2_with fail
  refine K.mono ?_
  rintro e w' ⟨rfl, rfl⟩
  go_wp2_with fail
  go_ret
  exact ⟨rfl, rfl⟩
 ·rw [decide_eq_false h, Bool.false_and]
  have h' : ¬ (0 : Int) < s.length := by omega
  go_enter Tryz.func83, Tryz.ntmps83
  go_wp2_with fail
  go_ret
  exact ⟨rfl, rfl⟩

/-- texts that aren't too long -/
def FitT (xs : List Txt) : Prop := ∀ t ∈ xs, t.length ≤ 1000000
theorem FitT.at {xs : List Txt} (h : FitT xs) (k : Nat) (hk : k < xs.length) : (xs.getD k []).length ≤ 1000000 := by
 have := h _ (List.getElem_mem hk)
 simpa [List.getD, List.getElem?_eq_getElem hk] using this
theorem mem_getD {xs : List Txt} {k : Nat} (hk : k < xs.length) : xs.getD k [] ∈ xs := by
 have e : xs.getD k [] = xs[k] := by simp [List.getD, List.getElem?_eq_getElem hk]
 rw [e]
 exact List.getElem_mem hk
theorem covers_true {xs : List Txt} {s : Txt} (k : Nat) (hk : k < xs.length) (h : beg s (xs.getD k []) = true) : covers xs s = true := covers_iff.2 ⟨_, mem_getD hk, h⟩
theorem covers_false {xs : List Txt} {s : Txt} (h : ∀ k, k < xs.length → beg s (xs.getD k []) = false) : covers xs s = false := by
 cases e : covers xs s with
 | false => rfl
 | true =>
  obtain ⟨p, hp, hb⟩ := covers_iff.1 e
  obtain ⟨k, hk, rfl⟩ := List.getElem_of_mem hp
  have := h k hk
  simp [List.getD, List.getElem?_eq_getElem hk, hb] at this

set_option maxRecDepth 100000 in
set_option maxHeartbeats 4000000 in
/-- Covers -/
theorem rcovers_any {v : Value} {xs : List Txt} {w : World} (hv : SeqT w v xs) (hx : FitT xs) (hn : xs.length ≤ 1000000) (s : Txt) (hs : s.length ≤ 1000000) :
  Calls Tryz.prog 62 #[v, .string (bt s)] w fun e w' => e = .returned (.bool (covers xs s)) ∧ ∃ n, w' = w.drewN n := by
 obtain ⟨a, cap, rfl, g1, g2, g0, h⟩ := hv.parts
 have HS := Lib.hid h
 have HT := Lib.hid (fun k hk h => covers_true (xs := xs) (s := s) k hk h)
 have HF := Lib.hid (covers_false (xs := xs) (s := s))
 have KB := Lib.hid (fun k (hk : k < xs.length) (u : World) => rbegins_any s (xs.getD k []) hs (hx.at k hk) u)
 have hm : maxLen = 9223372036854775807 := rfl
 rw [hm] at g2
 clear hv h g0 hm hx
 generalize covers xs s = r at *
 generalize bt s = S at *
 go_enter Tryz.func62, Tryz.ntmps62
 go_wp2_with fail
 go_loopw [5] (fun i wr => ∃ k : Nat, k ≤ xs.length ∧ i = .int .i64 k ∧ (∀ j, j < k → beg s (xs.getD j []) = false) ∧ ∃ n, wr = w.drewN n) (fun i _ => xs.length - (intOf i).toNat)
 case atStart => exact ⟨0, Nat.zero_le _, rfl, fun j hj => absurd hj (by omega), 0, rfl⟩
 case round =>
  obtain ⟨k, hk, rfl, hall, n, rfl⟩ := hrel
  have HA := Lib.hid hall
  clear hall
  by_cases hlt : k < xs.length
  ·obtain ⟨b, o, c, hv, -, -, -, hc⟩ := HS.out.spot (by omega)
   simp only [Value.slice.injEq] at hv
   obtain ⟨rfl, -, rfl⟩ := hv
   have c1 := hc k hlt
   unfold tv at c1
   have K := KB.out k hlt (w.drewN n)
   clear hc
   cases he : beg s (xs.getD k []) with
   | true =>
    rw [he] at K
    obtain rfl : r = true := HT.out k hlt he
    clear he
    generalize bt (xs.getD k []) = X at *
    go_wp2_with fail
    refine K.mono ?_
    rintro e w' ⟨rfl, m, rfl⟩
    go_wp2_with fail
    go_ret
    exact ⟨rfl, _, rfl⟩
   | false =>
    rw [he] at K
    have HA2 : Hid (∀ j, j < k + 1 → beg s (xs.getD j []) = false) := Lib.hid (fun j hj => by
      by_cases h : j < k
      ·exact HA.out j h
      ·obtain rfl : j = k := by omega
       exact he)
    clear he
    generalize bt (xs.getD k []) = X at *
    go_wp2_with fail
    refine K.mono ?_
    rintro e w' ⟨rfl, m, rfl⟩
    go_wp2_with fail
    go_roundw
    case rel => exact ⟨k + 1, by omega, by go_num, HA2.out, _, rfl⟩
    case measure => simp [intOf]; omega
  ·obtain rfl : k = xs.length := by omega
   obtain rfl : r = false := HF.out HA.out
   go_wp2_with fail
   go_ret
   exact ⟨rfl, _, rfl⟩
end Go.Proofs.YtkanklppgioacaaGreat
namespace Go.Proofs.YtkanklppgioacaaGreat
open Go.RowKit Plain
set_option linter.unusedVariables false

/-! ### rising lists, from below -/
theorem mem_at {l : List Txt} {t : Txt} (h : t ∈ l) : ∃ j, j < l.length ∧ l.getD j [] = t := by
 obtain ⟨j, hj, rfl⟩ := List.getElem_of_mem h
 exact ⟨j, hj, by simp [List.getD, List.getElem?_eq_getElem hj]⟩
end Go.Proofs.YtkanklppgioacaaGreat
namespace Go.Proofs.YtkanklppgioacaaGreat
open Go.RowKit Plain
set_option linter.unusedVariables false

end Go.Proofs.YtkanklppgioacaaGreat
