/- The program's own way with effects as plain mathematics: what is made and left, from the last effect on; the drops, one list behind the other; what covered keys tell; formed and right, place by place. -/
import Derived.Test.YthcpglbeiibniaaEMath
import Derived.Test.YthcpglbeiibniaaICmp
namespace Go.Proofs.Ythcpglbeiibniaa.Plain
set_option linter.unusedVariables false

/-! ### Do -/
/-- what effects take away, from the last one on -/
def adrops : List PEff → List PDot
  | [] => []
  | e :: l => adrops l ++ e.drops
theorem mem_adrops : ∀ {l : List PEff} {d : PDot}, d ∈ adrops l ↔ d ∈ dropsOf l
  | [], d => Iff.rfl
  | e :: l, d => by
    rw [adrops, List.mem_append, mem_adrops]
    unfold dropsOf
    rw [List.flatMap_cons, List.mem_append]
    exact Or.comm
/-- what effects make and none behind takes away, the last one first -/
def mleft (node seq : Int) : List PEff → List PItem
  | [] => []
  | e :: l => mleft node seq l ++ iwithout (makes node seq e) (adrops l)
theorem mem_mleft {node seq : Int} : ∀ {l : List PEff} {t : PItem}, t ∈ mleft node seq l ↔ t ∈ own node seq l
  | [], t => Iff.rfl
  | e :: l, t => by
    rw [mleft, own_cons, List.mem_append, List.mem_append, mem_mleft, mem_iwithout, mem_iwithout, mem_adrops]
    exact Or.comm
theorem makes_len (node seq : Int) (e : PEff) : (makes node seq e).length ≤ 1 := by unfold makes; split <;> simp
theorem mleft_len (node seq : Int) : ∀ l : List PEff, (mleft node seq l).length ≤ l.length
  | [] => Nat.le_refl _
  | e :: l => by
    have h1 := mleft_len node seq l
    have h2 := makes_len node seq e
    have h3 := iwithout_len (makes node seq e) (adrops l)
    rw [mleft, List.length_append, List.length_cons]
    omega
theorem mleft_yes {node seq : Int} {e : PEff} {l : List PEff} (hk : e.kind ≠ 0) (hd : hasDot (adrops l) ⟨node, seq, e.pos⟩ = false) : mleft node seq (e :: l) = mleft node seq l ++ [madeI node seq e] := by
  rw [mleft]
  congr 1
  unfold makes iwithout
  rw [if_neg hk, List.filter_cons, if_pos, List.filter_nil]
  show (!hasDot (adrops l) ⟨node, seq, e.pos⟩) = true
  rw [hd]
  rfl
theorem mleft_no {node seq : Int} {e : PEff} {l : List PEff} (h : e.kind = 0 ∨ hasDot (adrops l) ⟨node, seq, e.pos⟩ = true) : mleft node seq (e :: l) = mleft node seq l := by
  rw [mleft]
  conv => rhs; rw [← List.append_nil (mleft node seq l)]
  congr 1
  unfold makes iwithout
  rcases h with h | h
  · rw [if_pos h, List.filter_nil]
  · split
    · rfl
    · rw [List.filter_cons, if_neg, List.filter_nil]
      show ¬ (!hasDot (adrops l) ⟨node, seq, e.pos⟩) = true
      rw [h]
      decide
theorem edo_way {node seq : Int} {s : List PItem} {l : List PEff} (h : l ≠ []) : inorm (iwithout s (dropsOf l) ++ mleft node seq l) = edo node seq s l := by
  rw [edo_at node seq l s h, eraw_at]
  refine inorm_ext fun t => ?_
  rw [List.mem_append, List.mem_append, mem_mleft]
theorem drop_cons {α : Type} [Inhabited α] {l : List α} {k : Nat} (hk : k < l.length) : l.drop k = l.getD k default :: l.drop (k + 1) := by
  rw [List.drop_eq_getElem_cons hk]
  simp [List.getD, List.getElem?_eq_getElem hk]
theorem drops_take {l : List PEff} {k : Nat} (hk : k < l.length) : dropsOf (l.take (k + 1)) = dropsOf (l.take k) ++ (l.getD k default).drops := by
  rw [take_nextD hk]
  unfold dropsOf
  rw [List.flatMap_append]
  simp
theorem drops_len {l : List PEff} {m : Nat} (h : ∀ e ∈ l, e.drops.length ≤ m) : (dropsOf l).length ≤ l.length * m := by
  unfold dropsOf
  induction l with
  | nil => simp
  | cons e l ih =>
    have h1 := ih fun x hx => h x (List.mem_cons_of_mem _ hx)
    have h2 := h e List.mem_cons_self
    rw [List.flatMap_cons, List.length_append, List.length_cons, Nat.succ_mul]
    omega
theorem adrops_len {m : Nat} : ∀ {l : List PEff}, (∀ e ∈ l, e.drops.length ≤ m) → (adrops l).length ≤ l.length * m
  | [], _ => by simp [adrops]
  | e :: l, h => by
    have h1 := adrops_len (l := l) fun x hx => h x (List.mem_cons_of_mem _ hx)
    have h2 := h e List.mem_cons_self
    rw [adrops, List.length_append, List.length_cons, Nat.succ_mul]
    omega

/-! ### Only -/
def keyI (e : PEff) : PItem := ⟨e.key, [], 0, [], 0, ⟨0, 0, 0⟩⟩
/-- the keys that are asked at once -/
def coveredK (l : List PEff) (z : List Txt) : List Txt := ikeys (iunder (l.map keyI) z)
theorem covered_way {l : List PEff} {z : List Txt} {e : PEff} (he : e ∈ l) : decide (e.key ∈ coveredK l z) = covers z e.key := by
  have h : e.key ∈ coveredK l z ↔ covers z e.key = true := by
    unfold coveredK ikeys
    rw [mem_once, List.mem_map]
    constructor
    · rintro ⟨x, hx, hk⟩
      rw [← hk]
      exact (mem_iunder.1 hx).2
    · intro h
      exact ⟨keyI e, mem_iunder.2 ⟨List.mem_map.2 ⟨e, he, rfl⟩, h⟩, rfl⟩
  cases hc : covers z e.key with
  | true => exact decide_eq_true (h.2 hc)
  | false => exact decide_eq_false fun k => by have := h.1 k; rw [hc] at this; cases this
theorem covered_len (l : List PEff) (z : List Txt) : (coveredK l z).length ≤ l.length := by
  have h1 := ikeys_len (iunder (l.map keyI) z)
  have h2 := iunder_len (l.map keyI) z
  rw [List.length_map] at h2
  unfold coveredK
  omega
theorem only_way (l : List PEff) (z : List Txt) : pickK (fun j => covers z (l.getD j default).key) l l.length = eonly l z := pickK_all (fun e : PEff => covers z e.key) l

/-! ### formed, right -/
def dcmps (a b : PDot) : List Int := [Lib.compareInt a.node b.node, Lib.compareInt a.seq b.seq, Lib.compareInt a.pos b.pos]
def dcmp (a b : PDot) : Int := firstNZ (dcmps a b)
theorem dcmp_dec (a b : PDot) : decide (dcmp a b < 0) = dlessB a b := by
  unfold dlessB dcmp dcmps
  exact decide_eq_decide.2 (firstNZ_step (icmp_spec _ _) (firstNZ_step (icmp_spec _ _) (firstNZ_last (icmp_spec _ _))))
theorem dcmp_ge (a b : PDot) : decide (0 ≤ dcmp a b) = !dlessB a b := by
  rw [← dcmp_dec, Bool.eq_iff_iff, Bool.not_eq_true', decide_eq_true_iff, decide_eq_false_iff_not]
  omega
theorem dropsB_iff : ∀ {l : List PDot}, dropsB l = true ↔ ∀ j, j < l.length → dotB (l.getD j default) = true ∧ (0 < j → dlessB (l.getD (j - 1) default) (l.getD j default) = true)
  | [] => ⟨fun _ j hj => absurd hj (by simp), fun _ => rfl⟩
  | [d] => by
    rw [dropsB]
    constructor
    · intro h j hj
      obtain rfl : j = 0 := by simp at hj; exact hj
      exact ⟨h, fun k => absurd k (by omega)⟩
    · intro h
      exact (h 0 (by simp)).1
  | d :: e :: l => by
    rw [dropsB, Bool.and_eq_true, Bool.and_eq_true, dropsB_iff (l := e :: l)]
    constructor
    · rintro ⟨h1, h2, h3⟩ j hj
      cases j with
      | zero => exact ⟨h1, fun k => absurd k (by omega)⟩
      | succ j =>
        have h4 := h3 j (by simp at hj ⊢; omega)
        refine ⟨h4.1, fun _ => ?_⟩
        cases j with
        | zero => exact h2
        | succ j => exact h4.2 (by omega)
    · intro h
      refine ⟨(h 0 (by simp)).1, (h 1 (by simp)).2 (by omega), fun j hj => ?_⟩
      have h4 := h (j + 1) (by simp at hj ⊢; omega)
      refine ⟨h4.1, fun hp => ?_⟩
      obtain ⟨i, rfl⟩ : ∃ i, j = i + 1 := ⟨j - 1, by omega⟩
      exact h4.2 (by omega)
theorem risesB_iff : ∀ {l : List PEff}, risesB l = true ↔ ∀ j, j < l.length → 0 < j → (l.getD (j - 1) default).pos < (l.getD j default).pos
  | [] => ⟨fun _ j hj => absurd hj (by simp), fun _ => rfl⟩
  | [d] => by
    rw [risesB]
    exact ⟨fun _ j hj hp => by simp at hj; omega, fun _ => rfl⟩
  | d :: e :: l => by
    rw [risesB, Bool.and_eq_true, decide_eq_true_iff, risesB_iff (l := e :: l)]
    constructor
    · rintro ⟨h2, h3⟩ j hj hp
      obtain ⟨i, rfl⟩ : ∃ i, j = i + 1 := ⟨j - 1, by omega⟩
      cases i with
      | zero => exact h2
      | succ i => exact h3 (i + 1) (by simp at hj ⊢; omega) (by omega)
    · intro h
      refine ⟨h 1 (by simp) (by omega), fun j hj hp => ?_⟩
      obtain ⟨i, rfl⟩ : ∃ i, j = i + 1 := ⟨j - 1, by omega⟩
      exact h (i + 1 + 1) (by simp at hj ⊢; omega) (by omega)
theorem mem_defE {l : List PEff} {k : Nat} (hk : k < l.length) : l.getD k default ∈ l := by
  have : l.getD k default = l[k] := by simp [List.getD, List.getElem?_eq_getElem hk]
  rw [this]
  exact List.getElem_mem hk
theorem all_getD {p : PEff → Bool} {l : List PEff} : l.all p = true ↔ ∀ j, j < l.length → p (l.getD j default) = true := by
  rw [List.all_eq_true]
  constructor
  · intro h j hj
    exact h _ (mem_defE hj)
  · intro h x hx
    obtain ⟨j, hj, rfl⟩ := List.getElem_of_mem hx
    have := h j hj
    rwa [show l.getD j default = l[j] by simp [List.getD, List.getElem?_eq_getElem hj]] at this
theorem rightB_iff {node seq : Int} {l : List PEff} : rightB node seq l = true ↔ ∀ j, j < l.length → (0 < j → (l.getD (j - 1) default).pos < (l.getD j default).pos) ∧ eformedB node seq (l.getD j default) = true ∧ pastB node seq (l.getD j default) = true := by
  unfold rightB
  rw [Bool.and_eq_true, Bool.and_eq_true, all_getD, all_getD, risesB_iff]
  exact ⟨fun ⟨h1, h2, h3⟩ j hj => ⟨h2 j hj, h1 j hj, h3 j hj⟩, fun h => ⟨fun j hj => (h j hj).2.1, fun j hj => (h j hj).1, fun j hj => (h j hj).2.2⟩⟩
def areB (l : List PDot) : Bool := decide (l.length ≤ 64) && dropsB l
/-- the item that is asked in its place, where nothing is made -/
def askI (node seq : Int) (e : PEff) : PItem := ⟨e.key, e.field, 1, e.elem, e.n, ⟨node, seq, e.pos⟩⟩
theorem eformed_zero {node seq : Int} {e : PEff} (hk : e.kind = 0) (he : e.elem.length = 0) (hd : 0 < e.drops.length) : eformedB node seq e = (formedB (askI node seq e) && areB e.drops) := by
  have h1 : e.elem.length ≤ 32 := by omega
  have h2 : (askI node seq e).elem.length ≤ 32 := h1
  unfold eformedB makesB formedB areB valueB
  rw [if_pos hk, decide_eq_true hd, decide_eq_true he, decide_eq_true h2]
  show (decide (e.drops.length ≤ 64) && (dropsB e.drops && (true && (true && (decide (e.n = 0) && (keyB e.key && (prefixB e.field && dotB ⟨node, seq, e.pos⟩))))))) = ((dotB ⟨node, seq, e.pos⟩ && (keyB e.key && (prefixB e.field && (true && (decide ((1 : Int) = 1 ∨ (1 : Int) = 2) && decide (e.n = 0) || (decide ((1 : Int) = 3) && decide (e.elem.length = 0))))))) && (decide (e.drops.length ≤ 64) && dropsB e.drops))
  rw [show decide ((1 : Int) = 1 ∨ (1 : Int) = 2) = true by decide, show decide ((1 : Int) = 3) = false by decide]
  generalize decide (e.drops.length ≤ 64) = b1
  generalize dropsB e.drops = b2
  generalize decide (e.n = 0) = b3
  generalize keyB e.key = b4
  generalize prefixB e.field = b5
  generalize dotB ⟨node, seq, e.pos⟩ = b6
  cases b1 <;> cases b2 <;> cases b3 <;> cases b4 <;> cases b5 <;> cases b6 <;> rfl
theorem eformed_bare {node seq : Int} {e : PEff} (hk : e.kind = 0) (he : ¬ e.elem.length = 0) : eformedB node seq e = false := by
  unfold eformedB makesB
  rw [if_pos hk, decide_eq_false he]
  simp
theorem eformed_idle {node seq : Int} {e : PEff} (hk : e.kind = 0) (hd : e.drops.length = 0) : eformedB node seq e = false := by
  unfold eformedB makesB
  rw [if_pos hk, decide_eq_false (by omega : ¬ 0 < e.drops.length)]
  simp
theorem eformed_made {node seq : Int} {e : PEff} (hk : ¬ e.kind = 0) : eformedB node seq e = (formedB (madeI node seq e) && areB e.drops) := by
  unfold eformedB makesB areB
  rw [if_neg hk]
  generalize decide (e.drops.length ≤ 64) = b1
  generalize dropsB e.drops = b2
  generalize formedB (madeI node seq e) = b3
  cases b1 <;> cases b2 <;> cases b3 <;> rfl
/-- what the last operand of Right asks of one dot -/
def unmadeB (node seq pos : Int) (d : PDot) : Bool := decide (d.node = node) && (decide (d.seq = seq) && decide (pos ≤ d.pos))
theorem past_any (node seq : Int) (e : PEff) : pastB node seq e = !(e.drops.any (unmadeB node seq e.pos)) := by
  unfold pastB unmadeB
  rw [Bool.eq_iff_iff, Bool.not_eq_true', List.all_eq_true, List.any_eq_false]
  constructor
  · intro h d hd k
    have := h d hd
    rw [k] at this
    cases this
  · intro h d hd
    have := h d hd
    cases hb : (decide (d.node = node) && (decide (d.seq = seq) && decide (e.pos ≤ d.pos))) with
    | true => exact absurd hb this
    | false => rfl
/-- a dot is one that an item may have: an item tells -/
theorem ask_dot (d : PDot) : formedB ⟨[97], [], 1, [], 0, d⟩ = dotB d := by
  have h1 : keyB [97] = true := by decide
  have h2 : prefixB [] = true := by decide
  unfold formedB valueB
  show (dotB d && (keyB [97] && (prefixB [] && (decide (([] : Txt).length ≤ 32) && ((decide ((1 : Int) = 1 ∨ (1 : Int) = 2) && decide ((0 : Int) = 0)) || (decide ((1 : Int) = 3) && decide (([] : Txt).length = 0))))))) = dotB d
  rw [h1, h2]
  simp
end Go.Proofs.Ythcpglbeiibniaa.Plain
