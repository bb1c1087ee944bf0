/- What the document's own functions of texts leave: Begins, Prefix, Key, Covers. What the document's own Once of texts leaves: the least that is greater than the last one, again and again. What the document's own Once of texts leaves (the walk). -/
import Derived.Test.YtlpcpbangmonaaaTWords
import Derived.BigQuiet
import Derived.Deep.LoopGhost
namespace Go.Proofs.Ytlpcpbangmonaaa
open Go.RowKit Plain
set_option linter.unusedVariables false

theorem beg_false {s p : Txt} (k : Nat) (hk : k < p.length) (h : s.getD k 0 ≠ p.getD k 0) (hs : k < s.length) : beg s p = false := by
  cases e : beg s p with
  | false => rfl
  | true =>
    obtain ⟨t, ht⟩ := beg_iff.1 e
    exfalso
    apply h
    subst ht
    simp [List.getD, List.getElem?_append_left hk]
theorem beg_true {s p : Txt} (hl : p.length ≤ s.length) (h : ∀ k, k < p.length → s.getD k 0 = p.getD k 0) : beg s p = true := by
  refine beg_iff.2 ((List.prefix_iff_eq_take).2 ?_)
  refine List.ext_getElem (by rw [List.length_take]; omega) fun i h1 h2 => ?_
  have := h i h1
  rw [List.getElem_take]
  simpa [List.getD, List.getElem?_eq_getElem h1, List.getElem?_eq_getElem (show i < s.length by omega)] using this.symm
theorem beg_long {s p : Txt} (hl : s.length < p.length) : beg s p = false := by
  cases e : beg s p with
  | false => rfl
  | true =>
    have := (beg_iff.1 e).length_le
    omega
theorem u8_ne {a b : UInt8} (h : a ≠ b) : ((a.toNat : Int) != (b.toNat : Int)) = true := bne_iff_ne.2 fun e => h (UInt8.toNat_inj.1 (by omega))
theorem u8_lt (a : UInt8) : a.toNat < 256 := UInt8.toNat_lt a

theorem ok_of {c : UInt8} (h : c.toNat = 47 ∨ (48 ≤ c.toNat ∧ c.toNat ≤ 57) ∨ (97 ≤ c.toNat ∧ c.toNat ≤ 122)) : okByte c = true := by
  unfold okByte
  simp only [Bool.or_eq_true, Bool.and_eq_true, beq_iff_eq, decide_eq_true_eq, UInt8.le_iff_toNat_le]
  rcases h with h | h | h
  · exact .inl (.inl (UInt8.toNat_inj.1 h))
  · exact .inl (.inr h)
  · exact .inr h
theorem ok_not {c : UInt8} (h : ¬ (c.toNat = 47 ∨ (48 ≤ c.toNat ∧ c.toNat ≤ 57) ∨ (97 ≤ c.toNat ∧ c.toNat ≤ 122))) : okByte c = false := by
  cases e : okByte c with
  | false => rfl
  | true =>
    exfalso
    apply h
    unfold okByte at e
    simp only [Bool.or_eq_true, Bool.and_eq_true, beq_iff_eq, decide_eq_true_eq, UInt8.le_iff_toNat_le] at e
    rcases e with (e | e) | e
    · subst e; exact .inl rfl
    · exact .inr (.inl e)
    · exact .inr (.inr e)
theorem prefix_true {s : Txt} (hl : s.length ≤ 16) (h : ∀ k, k < s.length → okByte (s.getD k 0) = true) : prefixB s = true := by
  unfold prefixB
  rw [Bool.and_eq_true, List.all_eq_true]
  refine ⟨fun c hc => ?_, decide_eq_true hl⟩
  obtain ⟨k, hk, rfl⟩ := List.getElem_of_mem hc
  have := h k hk
  simpa [List.getD, List.getElem?_eq_getElem hk] using this
theorem prefix_false {s : Txt} (k : Nat) (hk : k < s.length) (h : okByte (s.getD k 0) = false) : prefixB s = false := by
  cases e : prefixB s with
  | false => rfl
  | true =>
    unfold prefixB at e
    rw [Bool.and_eq_true, List.all_eq_true] at e
    have := e.1 _ (List.getElem_mem hk)
    simp [List.getD, List.getElem?_eq_getElem hk, this] at h
theorem prefix_long {s : Txt} (hl : ¬ s.length ≤ 16) : prefixB s = false := by unfold prefixB; rw [decide_eq_false hl, Bool.and_false]

set_option maxRecDepth 100000 in
set_option maxHeartbeats 4000000 in
/-- Prefix -/
theorem rprefix_any (s : Txt) (hs : s.length ≤ 9223372036854775807) (w : World) :
    Calls Try.prog 65 #[.string (bt s)] w fun e w' => e = .returned (.bool (prefixB s)) ∧ w = w' := by
  have z1 := bt_size s
  have HF := Lib.hid (fun k hk h => prefix_false (s := s) k hk h)
  have HT := Lib.hid (prefix_true (s := s))
  have HL := Lib.hid (prefix_long (s := s))
  have I1 := Lib.hid (index_run s)
  generalize prefixB s = r at *
  generalize bt s = S at *
  go_enter Try.func65, Try.ntmps65
  go_wp2_with fail
  go_loop [3, 4] (fun i _ => ∃ k : Nat, k ≤ s.length ∧ i = .int .i64 k ∧ ∀ j, j < k → okByte (s.getD j 0) = true) (fun i _ => s.length - (intOf i).toNat)
  case atStart => exact ⟨0, Nat.zero_le _, rfl, fun j hj => absurd hj (by omega)⟩
  case round =>
    obtain ⟨k, hk, rfl, hall⟩ := hrel
    have HA := Lib.hid hall
    clear hall
    by_cases hlt : k < s.length
    · have i1 := I1.out k hlt
      by_cases he : (s.getD k 0).toNat = 47 ∨ (48 ≤ (s.getD k 0).toNat ∧ (s.getD k 0).toNat ≤ 57) ∨ (97 ≤ (s.getD k 0).toNat ∧ (s.getD k 0).toNat ≤ 122)
      · have HA2 : Hid (∀ j, j < k + 1 → okByte (s.getD j 0) = true) := Lib.hid (fun j hj => by
            by_cases h : j < k
            · exact HA.out j h
            · obtain rfl : j = k := by omega
              exact ok_of he)
        have hx := u8_lt (s.getD k 0)
        generalize (s.getD k 0).toNat = x at *
        rcases he with he | ⟨h1, h2⟩ | ⟨h1, h2⟩
        · subst he
          go_wp2_with fail
          go_round
          case rel => exact ⟨k + 1, by omega, by go_num, HA2.out⟩
          case measure => simp [intOf]; omega
        · have b1 : ((x : Int) == 47) = false := by simp; omega
          go_wp2_with fail
          go_round
          case rel => exact ⟨k + 1, by omega, by go_num, HA2.out⟩
          case measure => simp [intOf]; omega
        · have b1 : ((x : Int) == 47) = false := by simp; omega
          have b2 : ¬ (x : Int) ≤ 57 := by omega
          have b3 : (48 : Int) ≤ x := by omega
          have b4 : (97 : Int) ≤ x := by omega
          have b5 : (x : Int) ≤ 122 := by omega
          clear h1 h2
          go_wp2_with fail
          exact ⟨⟨k + 1, by omega, by go_num, HA2.out⟩, by simp [intOf]; omega⟩
      · obtain rfl : r = false := HF.out k hlt (ok_not he)
        have hx := u8_lt (s.getD k 0)
        generalize (s.getD k 0).toNat = x at *
        have b1 : ((x : Int) == 47) = false := by simp; omega
        by_cases h1 : x < 48
        · clear he
          have b2 : ¬ (48 : Int) ≤ x := by omega
          have b3 : ¬ (97 : Int) ≤ x := by omega
          go_wp2_with fail
          go_ret
          exact ⟨rfl, rfl⟩
        · by_cases h2 : x < 97
          · have b2 : (48 : Int) ≤ x := by omega
            have b3 : ¬ (x : Int) ≤ 57 := by omega
            have b4 : ¬ (97 : Int) ≤ x := by omega
            clear he
            go_wp2_with fail
            go_ret
            exact ⟨rfl, rfl⟩
          · have b2 : (48 : Int) ≤ x := by omega
            have b3 : ¬ (x : Int) ≤ 57 := by omega
            have b4 : (97 : Int) ≤ x := by omega
            have b5 : ¬ (x : Int) ≤ 122 := by omega
            clear he
            go_wp2_with fail
            go_ret
            exact ⟨rfl, rfl⟩
    · obtain rfl : k = s.length := by omega
      by_cases hl : s.length ≤ 16
      · obtain rfl : r = true := HT.out hl HA.out
        have hd : decide ((s.length : Int) ≤ 16) = true := decide_eq_true (by omega)
        go_wp2_with fail
        go_ret
        exact ⟨rfl, rfl⟩
      · obtain rfl : r = false := HL.out hl
        have hd : decide ((s.length : Int) ≤ 16) = false := decide_eq_false (by omega)
        go_wp2_with fail
        go_ret
        exact ⟨rfl, rfl⟩

set_option maxRecDepth 100000 in
set_option maxHeartbeats 1000000 in
/-- Key -/
theorem rkey_any (s : Txt) (hs : s.length ≤ 9223372036854775807) (w : World) :
    Calls Try.prog 64 #[.string (bt s)] w fun e w' => e = .returned (.bool (keyB s)) ∧ w = w' := by
  have z1 := bt_size s
  have K := rprefix_any s hs w
  have hk : keyB s = (decide (0 < s.length) && prefixB s) := rfl
  generalize prefixB s = r at *
  generalize bt s = S at *
  rw [hk]
  clear hk
  by_cases h : 0 < s.length
  · rw [decide_eq_true h, Bool.true_and]
    have h' : (0 : Int) < s.length := by omega
    go_enter Try.func64, Try.ntmps64
    go_wp2_with fail
    refine K.mono ?_
    rintro e w' ⟨rfl, rfl⟩
    go_wp2_with fail
    go_ret
    exact ⟨rfl, rfl⟩
  · rw [decide_eq_false h, Bool.false_and]
    have h' : ¬ (0 : Int) < s.length := by omega
    go_enter Try.func64, Try.ntmps64
    go_wp2_with fail
    go_ret
    exact ⟨rfl, rfl⟩

/-- texts that aren't too long -/
def FitT (xs : List Txt) : Prop := ∀ t ∈ xs, t.length ≤ 1000000
theorem FitT.at {xs : List Txt} (h : FitT xs) (k : Nat) (hk : k < xs.length) : (xs.getD k []).length ≤ 1000000 := by
  have := h _ (List.getElem_mem hk)
  simpa [List.getD, List.getElem?_eq_getElem hk] using this
theorem mem_getD {xs : List Txt} {k : Nat} (hk : k < xs.length) : xs.getD k [] ∈ xs := by
  have e : xs.getD k [] = xs[k] := by simp [List.getD, List.getElem?_eq_getElem hk]
  rw [e]
  exact List.getElem_mem hk
theorem covers_true {xs : List Txt} {s : Txt} (k : Nat) (hk : k < xs.length) (h : beg s (xs.getD k []) = true) : covers xs s = true := covers_iff.2 ⟨_, mem_getD hk, h⟩
theorem covers_false {xs : List Txt} {s : Txt} (h : ∀ k, k < xs.length → beg s (xs.getD k []) = false) : covers xs s = false := by
  cases e : covers xs s with
  | false => rfl
  | true =>
    obtain ⟨p, hp, hb⟩ := covers_iff.1 e
    obtain ⟨k, hk, rfl⟩ := List.getElem_of_mem hp
    have := h k hk
    simp [List.getD, List.getElem?_eq_getElem hk, hb] at this

end Go.Proofs.Ytlpcpbangmonaaa
namespace Go.Proofs.Ytlpcpbangmonaaa
open Go.RowKit Plain
set_option linter.unusedVariables false

/-! ### rising lists, from below -/
/-- may x come behind what stands already? -/
def Over (out : List Txt) (x : Txt) : Prop := ∀ t ∈ out, t < x
theorem over_last {out : List Txt} (hr : Rising out) {l : Txt} (hl : out.getLast? = some l) (x : Txt) : Over out x ↔ l < x := by
  constructor
  · intro h
    exact h l (List.mem_of_getLast? hl)
  · intro h t ht
    obtain ⟨ys, rfl⟩ := List.getLast?_eq_some_iff.1 hl
    rcases List.mem_append.1 ht with ht | ht
    · have := (List.pairwise_append.1 hr).2.2 t ht l (by simp)
      exact lt_trans this h
    · rw [List.mem_singleton.1 ht]; exact h
/-- the least of l that may come behind out, among the first k -/
def Best (l out : List Txt) (k : Nat) (ok : Bool) (b : Txt) : Prop :=
  (ok = true → (∃ j, j < k ∧ j < l.length ∧ l.getD j [] = b) ∧ Over out b) ∧ (∀ j, j < k → j < l.length → Over out (l.getD j []) → ok = true ∧ ¬ l.getD j [] < b)
theorem best_zero (l out : List Txt) : Best l out 0 false [] := ⟨fun h => absurd h (by decide), fun j h => absurd h (by omega)⟩
theorem best_skip {l out : List Txt} {k : Nat} {ok : Bool} {b : Txt} (h : Best l out k ok b) (hno : Over out (l.getD k []) → ok = true ∧ ¬ l.getD k [] < b) : Best l out (k + 1) ok b := by
  refine ⟨fun ho => ?_, fun j hj hl hv => ?_⟩
  · obtain ⟨⟨j, h1, h2, h3⟩, h4⟩ := h.1 ho
    exact ⟨⟨j, by omega, h2, h3⟩, h4⟩
  · by_cases g : j < k
    · exact h.2 j g hl hv
    · obtain rfl : j = k := by omega
      exact hno hv
theorem best_take {l out : List Txt} {k : Nat} {ok : Bool} {b : Txt} (h : Best l out k ok b) (hk : k < l.length) (hv : Over out (l.getD k [])) (hlt : ok = true → l.getD k [] < b) : Best l out (k + 1) true (l.getD k []) := by
  refine ⟨fun _ => ⟨⟨k, by omega, hk, rfl⟩, hv⟩, fun j hj hl hvj => ⟨rfl, ?_⟩⟩
  by_cases g : j < k
  · obtain ⟨ho, hn⟩ := h.2 j g hl hvj
    intro hc
    exact hn (lt_trans hc (hlt ho))
  · obtain rfl : j = k := by omega
    exact lt_irrefl _
/-- what stands already: the first of Once -/
structure Grows (l out : List Txt) : Prop where
  rising : Rising out
  mem : ∀ t ∈ out, t ∈ l
  down : ∀ t ∈ l, ∀ u ∈ out, t < u → t ∈ out
theorem grows_nil (l : List Txt) : Grows l [] := ⟨List.Pairwise.nil, fun _ h => absurd h (by simp), fun _ _ _ h => absurd h (by simp)⟩
theorem mem_at {l : List Txt} {t : Txt} (h : t ∈ l) : ∃ j, j < l.length ∧ l.getD j [] = t := by
  obtain ⟨j, hj, rfl⟩ := List.getElem_of_mem h
  exact ⟨j, hj, by simp [List.getD, List.getElem?_eq_getElem hj]⟩
theorem grows_push {l out : List Txt} {b : Txt} (h : Grows l out) (hb : Best l out l.length true b) : Grows l (out ++ [b]) := by
  obtain ⟨⟨j, -, hj, hjb⟩, hov⟩ := hb.1 rfl
  have hbl : b ∈ l := by rw [← hjb]; exact mem_getD hj
  refine ⟨?_, ?_, ?_⟩
  · refine List.pairwise_append.2 ⟨h.rising, by simp, fun t ht u hu => ?_⟩
    rw [List.mem_singleton.1 hu]
    exact hov t ht
  · intro t ht
    rcases List.mem_append.1 ht with ht | ht
    · exact h.mem t ht
    · rw [List.mem_singleton.1 ht]; exact hbl
  · intro t ht u hu hlt
    rcases List.mem_append.1 hu with hu | hu
    · exact List.mem_append.2 (.inl (h.down t ht u hu hlt))
    · rw [List.mem_singleton.1 hu] at hlt
      by_cases g : Over out t
      · obtain ⟨i, hi, rfl⟩ := mem_at ht
        exact absurd hlt (hb.2 i hi hi g).2
      · have : ∃ v, v ∈ out ∧ ¬ v < t := Classical.byContradiction fun hno => g fun v hv => Classical.byContradiction fun hn => hno ⟨v, hv, hn⟩
        obtain ⟨v, hv, hn⟩ := this
        by_cases e : v = t
        · subst e; exact List.mem_append.2 (.inl hv)
        · exact List.mem_append.2 (.inl (h.down t ht v hv (lt_total hn e)))
theorem grows_end {l out : List Txt} {b : Txt} (h : Grows l out) (hb : Best l out l.length false b) : once l = out := by
  refine rising_ext (rising_once l) h.rising fun t => ?_
  rw [mem_once]
  refine ⟨fun ht => ?_, h.mem t⟩
  by_cases g : Over out t
  · obtain ⟨i, hi, rfl⟩ := mem_at ht
    exact absurd (hb.2 i hi hi g).1 (by decide)
  · have : ∃ v, v ∈ out ∧ ¬ v < t := Classical.byContradiction fun hno => g fun v hv => Classical.byContradiction fun hn => hno ⟨v, hv, hn⟩
    obtain ⟨v, hv, hn⟩ := this
    by_cases e : v = t
    · subst e; exact hv
    · exact h.down t ht v hv (lt_total hn e)
theorem grows_len {l out : List Txt} (h : Grows l out) : out.length ≤ l.length := by
  have e : once l = once (out ++ l) := once_ext fun t => by
    rw [List.mem_append]
    exact ⟨.inr, fun g => g.elim (h.mem t) id⟩
  have : out.length ≤ (once l).length := by
    have hs : ∀ {a b : List Txt}, Rising a → Rising b → (∀ t ∈ a, t ∈ b) → a.length ≤ b.length := by
      intro a
      induction a with
      | nil => intro b _ _ _; simp
      | cons x a ih =>
        intro b ha hb hm
        have := ih (b := b.filter fun t => decide (x < t)) ha.tail (hb.filter _) fun t ht => List.mem_filter.2 ⟨hm t (List.mem_cons_of_mem _ ht), decide_eq_true (ha.head t ht)⟩
        have hlt : (b.filter fun t => decide (x < t)).length < b.length := by
          refine Nat.lt_of_le_of_ne (List.length_filter_le _ _) fun he => ?_
          have := List.length_filter_eq_length_iff.1 he x (hm x List.mem_cons_self)
          exact lt_irrefl x (of_decide_eq_true this)
        rw [List.length_cons]; omega
    exact hs h.rising (rising_once l) fun t ht => (mem_once t l).2 (h.mem t ht)
  have := once_len l
  omega

end Go.Proofs.Ytlpcpbangmonaaa
namespace Go.Proofs.Ytlpcpbangmonaaa
open Go.RowKit Plain
set_option linter.unusedVariables false

theorem gt_test (s t : Txt) : (!(Op.bytesLess (bt s).toList (bt t).toList || (bt s).toList == (bt t).toList)) = decide (t < s) := by
  rw [text_lt, text_eq]
  by_cases h : s < t
  · simp [h, lt_asymm h]
  · by_cases e : s = t
    · subst e; simp [lt_irrefl]
    · simp [h, e, lt_total h e]

end Go.Proofs.Ytlpcpbangmonaaa
