/- What the document's own functions of texts leave: Begins, Prefix, Key, Covers. What the document's own Once of texts leaves: the least that is greater than the last one, again and again. What the document's own Once of texts leaves (the walk). -/
import Derived.Test.YtfapkepfngddlaaGreatEqI
import Derived.BigQuiet
import Derived.Deep.LoopGhost
set_option maxRecDepth 100000
set_option maxHeartbeats 64000000
namespace Go.Proofs.YtfapkepfngddlaaGreat
open Go.RowKit Plain
set_option linter.unusedVariables false
theorem beg_false {s p : Txt} (k : Nat) (hk : k < p.length) (h : s.getD k 0 ≠ p.getD k 0) (hs : k < s.length) : beg s p = false := by
 cases e : beg s p with
 | false => rfl
 | true =>
  obtain ⟨t, ht⟩ := beg_iff.1 e
  exfalso
  apply h
  subst ht;simp [List.getD, List.getElem?_append_left hk]
theorem beg_true {s p : Txt} (hl : p.length ≤ s.length) (h : ∀ k, k < p.length → s.getD k 0 = p.getD k 0) : beg s p = true := by
 refine beg_iff.2 ((List.prefix_iff_eq_take).2 ?_);refine List.ext_getElem (by rw [List.length_take]; omega) fun i h1 h2 => ?_
 have := h i h1;rw [List.getElem_take]
 simpa [List.getD, List.getElem?_eq_getElem h1, List.getElem?_eq_getElem (show i < s.length by omega)] using this.symm
theorem beg_long {s p : Txt} (hl : s.length < p.length) : beg s p = false := by
 cases e : beg s p with
 | false => rfl
 | true =>
  have := (beg_iff.1 e).length_le;omega
theorem u8_ne {a b : UInt8} (h : a ≠ b) : ((a.toNat : Int) != (b.toNat : Int)) = true := bne_iff_ne.2 fun e => h (UInt8.toNat_inj.1 (by omega))
theorem u8_lt (a : UInt8) : a.toNat < 256 := UInt8.toNat_lt a
theorem rbegins_any (s p : Txt) (hs : s.length ≤ 1000000) (hp : p.length ≤ 1000000) (w : World) :
  Calls Tryz.prog 85 #[.string (bt s), .string (bt p)] w fun e w' => e = .returned (.bool (beg s p)) ∧ ∃ n, w' = w.drewN n := by
 have z1 := bt_size s;have z2 := bt_size p
 by_cases hl : s.length < p.length
 ·rw [beg_long hl]
  generalize bt s = S at *;generalize bt p = Q at *;go_enter Tryz.func85, Tryz.ntmps85
  go_wp2_with fail
  go_ret
  exact ⟨rfl, 0, rfl⟩
 ·have HF := zH (fun k hk h hs => beg_false (s := s) (p := p) k hk h hs)
  have HT := zH (beg_true (s := s) (p := p) (by omega));generalize beg s p = r at *;have I1 := zH (index_run s);have I2 := zH (index_run p);generalize bt s = S at *;generalize bt p = Q at *;go_enter Tryz.func85, Tryz.ntmps85
  go_wp2_with fail
  go_loopw [5] (fun i wr => ∃ k : Nat, k ≤ p.length ∧ i = .int .i64 k ∧ (∀ j, j < k → s.getD j 0 = p.getD j 0) ∧ ∃ n, wr = w.drewN n) (fun i _ => p.length - (intOf i).toNat)
  case atStart => exact ⟨0, Nat.zero_le _, rfl, fun j hj => absurd hj (by omega), 0, rfl⟩
  case round =>
   obtain ⟨k, hk, rfl, hall, n, rfl⟩ := hrel;have HA := zH hall;clear hall
   by_cases hlt : k < p.length
   ·have i1 := I1.out k (by omega)
    have i2 := I2.out k hlt
    by_cases he : s.getD k 0 = p.getD k 0
    ·have HA2 : Hid (∀ j, j < k + 1 → s.getD j 0 = p.getD j 0) := zH (fun j hj => by
      by_cases h : j < k
      ·exact HA.out j h
      ·obtain rfl : j = k := by omega
       exact he)
     rw [he] at i1;clear he;have hx := u8_lt (p.getD k 0);generalize (p.getD k 0).toNat = x at *;go_wp2_with fail
     go_quiet (fail)
     go_wp2_with fail
     go_roundw
     case rel => exact ⟨k + 1, by omega, by go_num, HA2.out, _, rfl⟩
     case measure => simp [intOf]; omega
    ·have hb := u8_ne he
     obtain rfl : r = false := HF.out k hlt he (by omega);clear he;generalize (p.getD k 0).toNat = x at *;generalize (s.getD k 0).toNat = y at *;go_wp2_with fail
     go_quiet (fail)
     go_wp2_with fail
     go_ret
     exact ⟨rfl, _, World.drewN_drewN _ _ _⟩
   ·obtain rfl : k = p.length := by omega
    obtain rfl : r = true := HT.out HA.out;go_wp2_with fail
    go_ret
    exact ⟨rfl, _, rfl⟩
theorem ok_of {c : UInt8} (h : c.toNat = 47 ∨ (48 ≤ c.toNat ∧ c.toNat ≤ 57) ∨ (97 ≤ c.toNat ∧ c.toNat ≤ 122)) : okByte c = true := by
 unfold okByte;simp only [Bool.or_eq_true, Bool.and_eq_true, beq_iff_eq, decide_eq_true_eq, UInt8.le_iff_toNat_le]
 rcases h with h | h | h
 ·exact .inl (.inl (UInt8.toNat_inj.1 h))
 ·exact .inl (.inr h)
 ·exact .inr h
theorem ok_not {c : UInt8} (h : ¬ (c.toNat = 47 ∨ (48 ≤ c.toNat ∧ c.toNat ≤ 57) ∨ (97 ≤ c.toNat ∧ c.toNat ≤ 122))) : okByte c = false := by
 cases e : okByte c with
 | false => rfl
 | true =>
  exfalso
  apply h
  unfold okByte at e;simp only [Bool.or_eq_true, Bool.and_eq_true, beq_iff_eq, decide_eq_true_eq, UInt8.le_iff_toNat_le] at e
  rcases e with (e | e) | e
  ·subst e; exact .inl rfl
  ·exact .inr (.inl e)
  ·exact .inr (.inr e)
theorem prefix_true {s : Txt} (hl : s.length ≤ 16) (h : ∀ k, k < s.length → okByte (s.getD k 0) = true) : prefixB s = true := by
 unfold prefixB;rw [Bool.and_eq_true, List.all_eq_true];refine ⟨fun c hc => ?_, decide_eq_true hl⟩;obtain ⟨k, hk, rfl⟩ := List.getElem_of_mem hc;have := h k hk
 simpa [List.getD, List.getElem?_eq_getElem hk] using this
theorem prefix_false {s : Txt} (k : Nat) (hk : k < s.length) (h : okByte (s.getD k 0) = false) : prefixB s = false := by
 cases e : prefixB s with
 | false => rfl
 | true =>
  unfold prefixB at e;rw [Bool.and_eq_true, List.all_eq_true] at e;have := e.1 _ (List.getElem_mem hk);simp [List.getD, List.getElem?_eq_getElem hk, this] at h
theorem prefix_long {s : Txt} (hl : ¬ s.length ≤ 16) : prefixB s = false := by unfold prefixB; rw [decide_eq_false hl, Bool.and_false]
theorem rprefix_any (s : Txt) (hs : s.length ≤ 9223372036854775807) (w : World) :
  Calls Tryz.prog 84 #[.string (bt s)] w fun e w' => e = .returned (.bool (prefixB s)) ∧ w = w' := by
 have z1 := bt_size s;have HF := zH (fun k hk h => prefix_false (s := s) k hk h);have HT := zH (prefix_true (s := s));have HL := zH (prefix_long (s := s));have I1 := zH (index_run s);generalize prefixB s = r at *;generalize bt s = S at *;go_enter Tryz.func84, Tryz.ntmps84
 go_wp2_with fail
 go_loop [3, 4] (fun i _ => ∃ k : Nat, k ≤ s.length ∧ i = .int .i64 k ∧ ∀ j, j < k → okByte (s.getD j 0) = true) (fun i _ => s.length - (intOf i).toNat)
 case atStart => exact ⟨0, Nat.zero_le _, rfl, fun j hj => absurd hj (by omega)⟩
 case round =>
  obtain ⟨k, hk, rfl, hall⟩ := hrel;have HA := zH hall;clear hall
  by_cases hlt : k < s.length
  ·have i1 := I1.out k hlt
   by_cases he : (s.getD k 0).toNat = 47 ∨ (48 ≤ (s.getD k 0).toNat ∧ (s.getD k 0).toNat ≤ 57) ∨ (97 ≤ (s.getD k 0).toNat ∧ (s.getD k 0).toNat ≤ 122)
   ·have HA2 : Hid (∀ j, j < k + 1 → okByte (s.getD j 0) = true) := zH (fun j hj => by
      by_cases h : j < k
      ·exact HA.out j h
      ·obtain rfl : j = k := by omega
       exact ok_of he)
    have hx := u8_lt (s.getD k 0);generalize (s.getD k 0).toNat = x at *
    rcases he with he | ⟨h1, h2⟩ | ⟨h1, h2⟩
    ·subst he
     go_wp2_with fail
     go_round
     case rel => exact ⟨k + 1, by omega, by go_num, HA2.out⟩
     case measure => simp [intOf]; omega
    ·have b1 : ((x : Int) == 47) = false := by simp; omega
     go_wp2_with fail
     go_round
     case rel => exact ⟨k + 1, by omega, by go_num, HA2.out⟩
     case measure => simp [intOf]; omega
    ·have b1 : ((x : Int) == 47) = false := by simp; omega
     have b2 : ¬ (x : Int) ≤ 57 := by omega
     have b3 : (48 : Int) ≤ x := by omega
     have b4 : (97 : Int) ≤ x := by omega
     have b5 : (x : Int) ≤ 122 := by omega
     clear h1 h2;go_wp2_with fail
     exact ⟨⟨k + 1, by omega, by go_num, HA2.out⟩, by simp [intOf]; omega⟩
   ·obtain rfl : r = false := HF.out k hlt (ok_not he)
    have hx := u8_lt (s.getD k 0);generalize (s.getD k 0).toNat = x at *;have b1 : ((x : Int) == 47) = false := by simp; omega
    by_cases h1 : x < 48
    ·clear he
     have b2 : ¬ (48 : Int) ≤ x := by omega
     have b3 : ¬ (97 : Int) ≤ x := by omega
     go_wp2_with fail
     go_ret
     exact ⟨rfl, rfl⟩
    ·by_cases h2 : x < 97
     ·have b2 : (48 : Int) ≤ x := by omega
      have b3 : ¬ (x : Int) ≤ 57 := by omega
      have b4 : ¬ (97 : Int) ≤ x := by omega
      clear he;go_wp2_with fail
      go_ret
      exact ⟨rfl, rfl⟩
     ·have b2 : (48 : Int) ≤ x := by omega
      have b3 : ¬ (x : Int) ≤ 57 := by omega
      have b4 : (97 : Int) ≤ x := by omega
      have b5 : ¬ (x : Int) ≤ 122 := by omega
      clear he;go_wp2_with fail
      go_ret
      exact ⟨rfl, rfl⟩
  ·obtain rfl : k = s.length := by omega
   by_cases hl : s.length ≤ 16
   ·obtain rfl : r = true := HT.out hl HA.out
    have hd : decide ((s.length : Int) ≤ 16) = true := decide_eq_true (by omega);go_wp2_with fail
    go_ret
    exact ⟨rfl, rfl⟩
   ·obtain rfl : r = false := HL.out hl
    have hd : decide ((s.length : Int) ≤ 16) = false := decide_eq_false (by omega);go_wp2_with fail
    go_ret
    exact ⟨rfl, rfl⟩
theorem rkey_any (s : Txt) (hs : s.length ≤ 9223372036854775807) (w : World) :
  Calls Tryz.prog 83 #[.string (bt s)] w fun e w' => e = .returned (.bool (keyB s)) ∧ w = w' := by
 have z1 := bt_size s;have K := rprefix_any s hs w;have hk : keyB s = (decide (0 < s.length) && prefixB s) := rfl;generalize prefixB s = r at *;generalize bt s = S at *;rw [hk];clear hk
 by_cases h : 0 < s.length
 ·rw [decide_eq_true h, Bool.true_and]
  have h' : (0 : Int) < s.length := by omega
  go_enter Tryz.func83, Tryz.ntmps83
  go_wp2_with fail
  refine K.mono ?_;rintro e w' ⟨rfl, rfl⟩;go_wp2_with fail
  go_ret
  exact ⟨rfl, rfl⟩
 ·rw [decide_eq_false h, Bool.false_and]
  have h' : ¬ (0 : Int) < s.length := by omega
  go_enter Tryz.func83, Tryz.ntmps83
  go_wp2_with fail
  go_ret
  exact ⟨rfl, rfl⟩
def FitT (xs : List Txt) : Prop := ∀ t ∈ xs, t.length ≤ 1000000
theorem FitT.at {xs : List Txt} (h : FitT xs) (k : Nat) (hk : k < xs.length) : (xs.getD k []).length ≤ 1000000 := by
 have := h _ (List.getElem_mem hk)
 simpa [List.getD, List.getElem?_eq_getElem hk] using this
theorem mem_getD {xs : List Txt} {k : Nat} (hk : k < xs.length) : xs.getD k [] ∈ xs := by
 have e : xs.getD k [] = xs[k] := by simp [List.getD, List.getElem?_eq_getElem hk]
 rw [e];exact List.getElem_mem hk
theorem covers_true {xs : List Txt} {s : Txt} (k : Nat) (hk : k < xs.length) (h : beg s (xs.getD k []) = true) : covers xs s = true := covers_iff.2 ⟨_, mem_getD hk, h⟩
theorem covers_false {xs : List Txt} {s : Txt} (h : ∀ k, k < xs.length → beg s (xs.getD k []) = false) : covers xs s = false := by
 cases e : covers xs s with
 | false => rfl
 | true =>
  obtain ⟨p, hp, hb⟩ := covers_iff.1 e;obtain ⟨k, hk, rfl⟩ := List.getElem_of_mem hp;have := h k hk;simp [List.getD, List.getElem?_eq_getElem hk, hb] at this
theorem rcovers_any {v : Value} {xs : List Txt} {w : World} (hv : SeqT w v xs) (hx : FitT xs) (hn : xs.length ≤ 1000000) (s : Txt) (hs : s.length ≤ 1000000) :
  Calls Tryz.prog 34 #[v, .string (bt s)] w fun e w' => e = .returned (.bool (covers xs s)) ∧ ∃ n, w' = w.drewN n := by
 obtain ⟨a, cap, rfl, g1, g2, g0, h⟩ := hv.parts;have HS := zH h;have HT := zH (fun k hk h => covers_true (xs := xs) (s := s) k hk h);have HF := zH (covers_false (xs := xs) (s := s));have KB := zH (fun k (hk : k < xs.length) (u : World) => rbegins_any s (xs.getD k []) hs (hx.at k hk) u);have hm : maxLen = 9223372036854775807 := rfl;rw [hm] at g2;clear hv h g0 hm hx;generalize covers xs s = r at *;generalize bt s = S at *;go_enter Tryz.func34, Tryz.ntmps34
 go_wp2_with fail
 go_loopw [5] (fun i wr => ∃ k : Nat, k ≤ xs.length ∧ i = .int .i64 k ∧ (∀ j, j < k → beg s (xs.getD j []) = false) ∧ ∃ n, wr = w.drewN n) (fun i _ => xs.length - (intOf i).toNat)
 case atStart => exact ⟨0, Nat.zero_le _, rfl, fun j hj => absurd hj (by omega), 0, rfl⟩
 case round =>
  obtain ⟨k, hk, rfl, hall, n, rfl⟩ := hrel;have HA := zH hall;clear hall
  by_cases hlt : k < xs.length
  ·obtain ⟨b, o, c, hv, -, -, -, hc⟩ := HS.out.spot (by omega)
   simp only [Value.slice.injEq] at hv
   obtain ⟨rfl, -, rfl⟩ := hv;have c1 := hc k hlt;unfold tv at c1;have K := KB.out k hlt (w.drewN n);clear hc
   cases he : beg s (xs.getD k []) with
   | true =>
    rw [he] at K;obtain rfl : r = true := HT.out k hlt he;clear he;generalize bt (xs.getD k []) = X at *;go_wp2_with fail
    refine K.mono ?_;rintro e w' ⟨rfl, m, rfl⟩;go_wp2_with fail
    go_ret
    exact ⟨rfl, _, rfl⟩
   | false =>
    rw [he] at K;have HA2 : Hid (∀ j, j < k + 1 → beg s (xs.getD j []) = false) := zH (fun j hj => by
      by_cases h : j < k
      ·exact HA.out j h
      ·obtain rfl : j = k := by omega
       exact he)
    clear he;generalize bt (xs.getD k []) = X at *;go_wp2_with fail
    refine K.mono ?_;rintro e w' ⟨rfl, m, rfl⟩;go_wp2_with fail
    go_roundw
    case rel => exact ⟨k + 1, by omega, by go_num, HA2.out, _, rfl⟩
    case measure => simp [intOf]; omega
  ·obtain rfl : k = xs.length := by omega
   obtain rfl : r = false := HF.out HA.out;go_wp2_with fail
   go_ret
   exact ⟨rfl, _, rfl⟩
def Over (out : List Txt) (x : Txt) : Prop := ∀ t ∈ out, t < x
theorem over_last {out : List Txt} (hr : Rising out) {l : Txt} (hl : out.getLast? = some l) (x : Txt) : Over out x ↔ l < x := by
 constructor
 ·intro h
  exact h l (List.mem_of_getLast? hl)
 ·intro h t ht
  obtain ⟨ys, rfl⟩ := List.getLast?_eq_some_iff.1 hl
  rcases List.mem_append.1 ht with ht | ht
  ·have := (List.pairwise_append.1 hr).2.2 t ht l (by simp)
   exact lt_trans this h
  ·rw [List.mem_singleton.1 ht]; exact h
def Best (l out : List Txt) (k : Nat) (ok : Bool) (b : Txt) : Prop :=
 (ok = true → (∃ j, j < k ∧ j < l.length ∧ l.getD j [] = b) ∧ Over out b) ∧ (∀ j, j < k → j < l.length → Over out (l.getD j []) → ok = true ∧ ¬ l.getD j [] < b)
theorem best_zero (l out : List Txt) : Best l out 0 false [] := ⟨fun h => absurd h (by decide), fun j h => absurd h (by omega)⟩
theorem best_skip {l out : List Txt} {k : Nat} {ok : Bool} {b : Txt} (h : Best l out k ok b) (hno : Over out (l.getD k []) → ok = true ∧ ¬ l.getD k [] < b) : Best l out (k + 1) ok b := by
 refine ⟨fun ho => ?_, fun j hj hl hv => ?_⟩
 ·obtain ⟨⟨j, h1, h2, h3⟩, h4⟩ := h.1 ho
  exact ⟨⟨j, by omega, h2, h3⟩, h4⟩
 ·by_cases g : j < k
  ·exact h.2 j g hl hv
  ·obtain rfl : j = k := by omega
   exact hno hv
theorem best_take {l out : List Txt} {k : Nat} {ok : Bool} {b : Txt} (h : Best l out k ok b) (hk : k < l.length) (hv : Over out (l.getD k [])) (hlt : ok = true → l.getD k [] < b) : Best l out (k + 1) true (l.getD k []) := by
 refine ⟨fun _ => ⟨⟨k, by omega, hk, rfl⟩, hv⟩, fun j hj hl hvj => ⟨rfl, ?_⟩⟩
 by_cases g : j < k
 ·obtain ⟨ho, hn⟩ := h.2 j g hl hvj
  intro hc;exact hn (lt_trans hc (hlt ho))
 ·obtain rfl : j = k := by omega
  exact lt_irrefl _
structure Grows (l out : List Txt) : Prop where
 rising : Rising out
 mem : ∀ t ∈ out, t ∈ l
 down : ∀ t ∈ l, ∀ u ∈ out, t < u → t ∈ out
theorem grows_nil (l : List Txt) : Grows l [] := ⟨List.Pairwise.nil, fun _ h => absurd h (by simp), fun _ _ _ h => absurd h (by simp)⟩
theorem mem_at {l : List Txt} {t : Txt} (h : t ∈ l) : ∃ j, j < l.length ∧ l.getD j [] = t := by
 obtain ⟨j, hj, rfl⟩ := List.getElem_of_mem h;exact ⟨j, hj, by simp [List.getD, List.getElem?_eq_getElem hj]⟩
theorem grows_push {l out : List Txt} {b : Txt} (h : Grows l out) (hb : Best l out l.length true b) : Grows l (out ++ [b]) := by
 obtain ⟨⟨j, -, hj, hjb⟩, hov⟩ := hb.1 rfl;have hbl : b ∈ l := by rw [← hjb]; exact mem_getD hj
 refine ⟨?_, ?_, ?_⟩
 ·refine List.pairwise_append.2 ⟨h.rising, by simp, fun t ht u hu => ?_⟩
  rw [List.mem_singleton.1 hu];exact hov t ht
 ·intro t ht
  rcases List.mem_append.1 ht with ht | ht
  ·exact h.mem t ht
  ·rw [List.mem_singleton.1 ht]; exact hbl
 ·intro t ht u hu hlt
  rcases List.mem_append.1 hu with hu | hu
  ·exact List.mem_append.2 (.inl (h.down t ht u hu hlt))
  ·rw [List.mem_singleton.1 hu] at hlt
   by_cases g : Over out t
   ·obtain ⟨i, hi, rfl⟩ := mem_at ht
    exact absurd hlt (hb.2 i hi hi g).2
   ·have : ∃ v, v ∈ out ∧ ¬ v < t := Classical.byContradiction fun hno => g fun v hv => Classical.byContradiction fun hn => hno ⟨v, hv, hn⟩
    obtain ⟨v, hv, hn⟩ := this
    by_cases e : v = t
    ·subst e; exact List.mem_append.2 (.inl hv)
    ·exact List.mem_append.2 (.inl (h.down t ht v hv (lt_total hn e)))
theorem grows_end {l out : List Txt} {b : Txt} (h : Grows l out) (hb : Best l out l.length false b) : once l = out := by
 refine rising_ext (rising_once l) h.rising fun t => ?_
 rw [mem_once];refine ⟨fun ht => ?_, h.mem t⟩
 by_cases g : Over out t
 ·obtain ⟨i, hi, rfl⟩ := mem_at ht
  exact absurd (hb.2 i hi hi g).1 (by decide)
 ·have : ∃ v, v ∈ out ∧ ¬ v < t := Classical.byContradiction fun hno => g fun v hv => Classical.byContradiction fun hn => hno ⟨v, hv, hn⟩
  obtain ⟨v, hv, hn⟩ := this
  by_cases e : v = t
  ·subst e; exact hv
  ·exact h.down t ht v hv (lt_total hn e)
theorem grows_len {l out : List Txt} (h : Grows l out) : out.length ≤ l.length := by
 have e : once l = once (out ++ l) := once_ext fun t => by
  rw [List.mem_append];exact ⟨.inr, fun g => g.elim (h.mem t) id⟩
 have : out.length ≤ (once l).length := by
  have hs : ∀ {a b : List Txt}, Rising a → Rising b → (∀ t ∈ a, t ∈ b) → a.length ≤ b.length := by
   intro a
   induction a with
   | nil => intro b _ _ _; simp
   | cons x a ih =>
    intro b ha hb hm;have := ih (b := b.filter fun t => decide (x < t)) ha.tail (hb.filter _) fun t ht => List.mem_filter.2 ⟨hm t (List.mem_cons_of_mem _ ht), decide_eq_true (ha.head t ht)⟩
    have hlt : (b.filter fun t => decide (x < t)).length < b.length := by
     refine Nat.lt_of_le_of_ne (List.length_filter_le _ _) fun he => ?_
     have := List.length_filter_eq_length_iff.1 he x (hm x List.mem_cons_self);exact lt_irrefl x (of_decide_eq_true this)
    rw [List.length_cons]; omega
  exact hs h.rising (rising_once l) fun t ht => (mem_once t l).2 (h.mem t ht)
 have := once_len l;omega
theorem gt_test (s t : Txt) : (!(Op.bytesLess (bt s).toList (bt t).toList || (bt s).toList == (bt t).toList)) = decide (t < s) := by
 rw [text_lt, text_eq]
 by_cases h : s < t
 ·simp [h, lt_asymm h]
 ·by_cases e : s = t
  ·subst e; simp [lt_irrefl]
  ·simp [h, e, lt_total h e]
theorem ronce_any {v : Value} {xs : List Txt} {w : World} (hv : SeqT w v xs) (hn : xs.length ≤ 1000000) :
  Calls Tryz.prog 134 #[v] w (MadeT w (once xs)) := by
 obtain ⟨a, cap, rfl, g1, g2, g0, h⟩ := hv.parts;have HS := zH h;have hm : maxLen = 9223372036854775807 := rfl;rw [hm] at g2;obtain ⟨n, hN⟩ : ∃ n, xs.length = n := ⟨_, rfl⟩;rw [hN] at g1 hn ⊢;have LN := zH hN;clear hv h g0 hm hN;go_enter Tryz.func134, Tryz.ntmps134
 go_wp2_with fail
 go_loopg [3, 4, 5, 6] n (fun gg o _ _ _ wr => ∃ out : List Txt, n - out.length ≤ gg ∧ OwnsT w.heap.size wr o out ∧ Below w.heap.size w wr ∧ Aside (Grows xs out))
 case atStart => exact ⟨[], by simp, OwnsT.nil _ _, Below.refl _ _, grows_nil xs⟩
 case round =>
  obtain ⟨out, hg, ho, hb, HG⟩ := hrel;have HB := zH hb;have ol := grows_len HG.out;rw [LN.out] at ol;obtain ⟨M, hM⟩ : ∃ M, out.length = M := ⟨_, rfl⟩;obtain ⟨ao, co, rfl, o1, o2, ho'⟩ := ho.at M hM;rw [hM] at hg ol;have HO := zH ho';have HM := zH hM;clear ho ho' hb hM;go_wp2_with fail
  go_loopw [4, 5, 6] (fun b ok i wr' => ∃ (k : Nat) (bb : Txt) (oo : Bool), k ≤ n ∧ i = .int .i64 k ∧ b = .string (bt bb) ∧ ok = .bool oo ∧ Best xs out k oo bb ∧ ∃ q, wr' = wr.drewN q) (fun _ _ i _ => n - (intOf i).toNat)
  case atStart => exact ⟨0, [], false, Nat.zero_le _, rfl, rfl, rfl, best_zero xs out, 0, rfl⟩
  case round =>
   obtain ⟨k, bb, oo, hk, rfl, rfl, rfl, hbest, q, rfl⟩ := hrel;have HBE := zH hbest;clear hbest
   by_cases hlt : k < n
   ·have hkl : k < xs.length := by rw [LN.out]; exact hlt
    obtain ⟨b, o, c, hv, -, -, -, hc⟩ := (HS.out.below HB.out).spot (by omega);rw [LN.out] at hv;simp only [Value.slice.injEq] at hv
    obtain ⟨rfl, -, rfl⟩ := hv;have c1 := hc k hkl;unfold tv at c1;clear hc;have HK := zH hkl;clear hkl;have t3 := text_lt (xs.getD k []) bb
    by_cases he : M = 0
    ·have hov : Over out (xs.getD k []) := by rw [List.eq_nil_of_length_eq_zero (HM.out.trans he)]; exact fun _ h => absurd h (by simp)
     have HOV := zH hov;clear hov;subst he;obtain ⟨X, hX⟩ : ∃ X, bt (xs.getD k []) = X := ⟨_, rfl⟩;have HX := zH hX;obtain ⟨Y, hY⟩ : ∃ Y, bt bb = Y := ⟨_, rfl⟩;have HY := zH hY;rw [hX] at c1 t3;rw [hY] at t3 ⊢;clear hX hY
     cases oo with
     | false =>
      have HB2 := zH (best_take HBE.out HK.out HOV.out (fun h => absurd h (by decide)));go_wp2_with fail
      go_quiet (fail)
      go_wp2_with fail
      go_roundw
      case rel => exact ⟨k + 1, xs.getD k [], true, by omega, by go_num, by rw [HX.out], rfl, HB2.out, _, rfl⟩
      case measure => simp [intOf]; omega
     | true =>
      by_cases hl : xs.getD k [] < bb
      ·have HB2 := zH (best_take HBE.out HK.out HOV.out (fun _ => hl))
       rw [decide_eq_true hl] at t3;clear hl;go_wp2_with fail
       go_quiet (fail)
       go_wp2_with fail
       go_roundw
       case rel => exact ⟨k + 1, xs.getD k [], true, by omega, by go_num, by rw [HX.out], rfl, HB2.out, _, rfl⟩
       case measure => simp [intOf]; omega
      ·have HB2 := zH (best_skip HBE.out (fun _ => ⟨rfl, hl⟩))
       rw [decide_eq_false hl] at t3;clear hl;go_wp2_with fail
       go_quiet (fail)
       go_wp2_with fail
       go_roundw
       case rel => exact ⟨k + 1, bb, true, by omega, by go_num, by rw [HY.out], rfl, HB2.out, _, rfl⟩
       case measure => simp [intOf]; omega
    ·obtain ⟨p, rfl⟩ : ∃ p, M = p + 1 := ⟨M - 1, by omega⟩
     obtain ⟨b2, p2, d2, hv2, -, -, -, hc2⟩ := HO.out.seq.spot (by rw [HM.out]; omega);rw [HM.out] at hv2;simp only [Value.slice.injEq] at hv2
     obtain ⟨rfl, -, rfl⟩ := hv2;have c2 := hc2 p (by rw [HM.out]; omega);unfold tv at c2;have hlast : out.getLast? = some (out.getD p []) := by
      rw [List.getLast?_eq_getElem?, HM.out, Nat.add_sub_cancel];have : p < out.length := by rw [HM.out]; omega
      simp [List.getD, List.getElem?_eq_getElem this]
     have t2 := gt_test (xs.getD k []) (out.getD p []);have hOV := over_last HG.out.rising hlast (xs.getD k []);have HOVI := zH hOV;have q2 : ((p : Int) + 1 == 0) = false := by simp; omega
     have q3 : (((p + 1 : Nat) : Int) == 0) = false := by simp; omega
     clear hc2 hlast hOV he;obtain ⟨Z, hZ⟩ : ∃ Z, bt (out.getD p []) = Z := ⟨_, rfl⟩;rw [hZ] at c2 t2;clear hZ;obtain ⟨X, hX⟩ : ∃ X, bt (xs.getD k []) = X := ⟨_, rfl⟩;have HX := zH hX;obtain ⟨Y, hY⟩ : ∃ Y, bt bb = Y := ⟨_, rfl⟩;have HY := zH hY;rw [hX] at c1 t2 t3;rw [hY] at t3 ⊢;clear hX hY
     by_cases hgt : out.getD p [] < xs.getD k []
     ·have HOV := zH (HOVI.out.2 hgt)
      rw [decide_eq_true hgt] at t2;clear hgt
      cases oo with
      | false =>
       have HB2 := zH (best_take HBE.out HK.out HOV.out (fun h => absurd h (by decide)));go_wp2_with fail
       go_quiet (fail)
       go_wp2_with fail
       go_roundw
       case rel => exact ⟨k + 1, xs.getD k [], true, by omega, by go_num, by rw [HX.out], rfl, HB2.out, _, rfl⟩
       case measure => simp [intOf]; omega
      | true =>
       by_cases hl : xs.getD k [] < bb
       ·have HB2 := zH (best_take HBE.out HK.out HOV.out (fun _ => hl))
        rw [decide_eq_true hl] at t3;clear hl;go_wp2_with fail
        go_quiet (fail)
        go_wp2_with fail
        go_roundw
        case rel => exact ⟨k + 1, xs.getD k [], true, by omega, by go_num, by rw [HX.out], rfl, HB2.out, _, rfl⟩
        case measure => simp [intOf]; omega
       ·have HB2 := zH (best_skip HBE.out (fun _ => ⟨rfl, hl⟩))
        rw [decide_eq_false hl] at t3;clear hl;go_wp2_with fail
        go_quiet (fail)
        go_wp2_with fail
        go_roundw
        case rel => exact ⟨k + 1, bb, true, by omega, by go_num, by rw [HY.out], rfl, HB2.out, _, rfl⟩
        case measure => simp [intOf]; omega
     ·have HB2 := zH (best_skip HBE.out (fun h => absurd (HOVI.out.1 h) hgt))
      rw [decide_eq_false hgt] at t2;clear hgt;go_wp2_with fail
      go_quiet (fail)
      go_wp2_with fail
      go_roundw
      case rel => exact ⟨k + 1, bb, oo, by omega, by go_num, by rw [HY.out], rfl, HB2.out, _, rfl⟩
      case measure => simp [intOf]; omega
   ·obtain rfl : k = n := by omega
    have HBE2 := zH (show Best xs out xs.length oo bb by rw [LN.out]; exact HBE.out)
    cases oo with
    | false =>
     have HE := zH (grows_end HG.out HBE2.out);have O2 := zH (show OwnsT w.heap.size (wr.drewN q) (.slice ao M co) (once xs) by rw [HE.out]; exact HO.out.below (below_drewN (Below.refl _ _) q) (Nat.le_refl _));have G2 := zH (below_drewN HB.out q);go_wp2_with fail
     go_ret
     exact ⟨_, rfl, O2.out, G2.out⟩
    | true =>
     have HG2 := grows_push HG.out HBE2.out;have hl2 := grows_len HG2;rw [LN.out, List.length_append, HM.out] at hl2;simp only [List.length_cons, List.length_nil] at hl2
     have HGA : Aside (Grows xs (out ++ [bb])) := HG2;have O1 := zH (HO.out.below (below_drewN (Below.refl _ _) q) (Nat.le_refl _));have G1 := zH (below_drewN HB.out q);have S1 := zH (show SeqT ((wr.drewN q).alloc (.cells #[.string (bt bb)] 9)) (.slice (some ⟨wr.heap.size, 0, none⟩) 1 1) [bb] from SeqT.one (wr.drewN q) bb);clear HG2;go_wp2_with (at_builtin; refine wpList_append_texts rfl (.tmp 48) (.tmp 50) rfl w.heap.size rfl (O1.out.alloc _) rfl S1.out (by rw [HM.out]; simp; omega) (by have := HB.out.size; simp; omega) ?_)
     intro v' w1 ho' hgr _;have O2 := zH ho';have G2 : Hid (Below w.heap.size w w1) := zH ((G1.out.alloc G1.out.size _).grown hgr (by have := HB.out.size; simp; omega) (fun j hj => (O1.out.lt j hj).1));have HL2 := zH (show (out ++ [bb]).length = M + 1 by rw [List.length_append, HM.out]; rfl);clear ho' hgr;go_wp2_with fail
     go_roundg (k - (M + 1))
     case measure => omega
     case rel => exact ⟨out ++ [bb], by rw [HL2.out]; omega, O2.out, G2.out, HGA⟩
end Go.Proofs.YtfapkepfngddlaaGreat
