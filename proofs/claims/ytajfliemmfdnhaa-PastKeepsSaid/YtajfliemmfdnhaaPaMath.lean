/- The past as plain mathematics: its end, what is kept, what one who heard v is told, pruning, and the laws of P16.3. -/
import Derived.Test.YtajfliemmfdnhaaOrWait
namespace Go.Proofs.Ytajfliemmfdnhaa.Plain
set_option linter.unusedVariables false

structure PPast where
 floor : Ints
 list : List PTxn
theorem ppast_ext {a b : PPast} (h1 : a.floor = b.floor) (h2 : a.list = b.list) : a = b := by
 cases a; cases b; simp_all
theorem ppast_dec {a b : PPast} : a = b ↔ a.floor = b.floor ∧ a.list = b.list := ⟨fun e => by subst e; exact ⟨rfl, rfl⟩, fun ⟨h1, h2⟩ => ppast_ext h1 h2⟩
def pHeard (v : Ints) (t : PTxn) : Bool := decide (1 ≤ t.seq) && decide (t.seq ≤ saysI v t.node)
def pEnd (p : PPast) : Ints := trim (oEnd p.floor p.list)
def pSound (p : PPast) : Bool := decide (trim p.floor = p.floor) && (oChain p.floor p.list && p.list.all tformedB)
structure PaSound (p : PPast) : Prop where
 floor : trim p.floor = p.floor
 chain : oChain p.floor p.list = true
 formed : ∀ t ∈ p.list, tformedB t = true
theorem pSound_iff {p : PPast} : pSound p = true ↔ PaSound p := by
 unfold pSound
 rw [Bool.and_eq_true, Bool.and_eq_true, decide_eq_true_iff, List.all_eq_true]
 exact ⟨fun ⟨a, b, c⟩ => ⟨a, b, c⟩, fun h => ⟨h.floor, h.chain, h.formed⟩⟩
def pErr (p : PPast) (t : PTxn) : Int := if tformedB t = false then 2 else if pHeard (pEnd p) t = true then 8 else if oReady (pEnd p) t = false then 9 else if 4096 ≤ p.list.length then 6 else 0
def pKeep (p : PPast) (t : PTxn) : PPast := if pErr p t = 0 then ⟨p.floor, p.list ++ [t]⟩ else ⟨[], []⟩
def pLeft (l : List PTxn) (v : Ints) : List PTxn := l.filter fun t => !pHeard v t
def pFloor (p : PPast) (to : Ints) : Ints := join p.floor (meet to (pEnd p))
def pPrune (p : PPast) (to : Ints) : PPast := ⟨pFloor p to, pLeft p.list (pFloor p to)⟩
def pClosedB (l : List PTxn) (v : Ints) : Bool := l.all fun t => !pHeard v t || within t.deps v
theorem says_trim_short {v : Ints} (h : Short v) : trim v = v := short_ext (trim_short _) h fun i => by rw [trim_says]
theorem pHeard_up {u v : Ints} (h : Within u v) {t : PTxn} (ht : pHeard u t = true) : pHeard v t = true := by
 unfold pHeard at ht ⊢
 rw [Bool.and_eq_true, decide_eq_true_iff, decide_eq_true_iff] at ht ⊢
 refine ⟨ht.1, Int.le_trans ht.2 ?_⟩
 unfold saysI
 split
 ·exact h _
 ·exact Int.le_refl _
theorem pEnd_says (p : PPast) (i : Nat) : says (pEnd p) i = says (oEnd p.floor p.list) i := trim_says _ _
theorem pEnd_short (p : PPast) : Short (pEnd p) := trim_short _

theorem pFollow : ∀ {l : List PTxn} {u v w : Ints}, oChain u l = true → (∀ t ∈ l, oValid t = true) → (∀ i, says w i = max (says v i) (says u i)) →
  oChain w (pLeft l v) = true ∧ ∀ i, says (oEnd w (pLeft l v)) i = max (says v i) (says (oEnd u l) i)
 | [], u, v, w, _, _, hw => ⟨rfl, hw⟩
 | t :: l, u, v, w, hc, hv, hw => by
  obtain ⟨hr, hc'⟩ := oChain_cons.1 hc
  have hvt := hv t List.mem_cons_self
  obtain ⟨⟨n0, -⟩, -, -⟩ := oValid_iff.1 hvt
  obtain ⟨r1, r2, r3⟩ := oReady_iff.1 hr
  rw [saysI_of n0] at r2
  have hv' : ∀ x ∈ l, oValid x = true := fun x hx => hv x (List.mem_cons_of_mem _ hx)
  have hn : ∀ i, says (oNext u t) i = if i = t.node.toNat then t.seq else says u i := fun i => by
   rw [oNext_says]
   simp [hvt]
  rw [oEnd_cons]
  unfold pLeft
  cases hh : pHeard v t with
  | true =>
   rw [List.filter_cons_of_neg (by simp [hh])]
   unfold pHeard at hh
   rw [Bool.and_eq_true, decide_eq_true_iff, decide_eq_true_iff, saysI_of n0] at hh
   refine pFollow hc' hv' fun i => ?_
   rw [hw, hn]
   split
   ·rename_i e
    subst e
    omega
   ·rfl
  | false =>
   rw [List.filter_cons_of_pos (by simp [hh])]
   unfold pHeard at hh
   rw [Bool.and_eq_false_iff, decide_eq_false_iff_not, decide_eq_false_iff_not, saysI_of n0] at hh
   have hs : says v t.node.toNat < t.seq := by
    rcases hh with h | h
    ·omega
    ·omega
   have hwr : oReady w t = true := oReady_iff.2 ⟨r1, by rw [saysI_of n0, hw]; omega, fun i => by rw [hw]; have := r3 i; omega⟩
   have key := pFollow (v := v) (w := oNext w t) hc' hv' fun i => by
    rw [oNext_says, hn, hw]
    simp only [hvt, true_and]
    split
    ·rename_i e
     subst e
     omega
    ·rfl
   refine ⟨oChain_cons.2 ⟨hwr, key.1⟩, fun i => ?_⟩
   rw [oEnd_cons]
   exact key.2 i
theorem PaSound.valid {p : PPast} (h : PaSound p) : ∀ t ∈ p.list, oValid t = true := fun t ht => oFormed_valid (h.formed t ht)
theorem pKeeps {p : PPast} {v : Ints} (h : PaSound p) (hw : Within p.floor v) : oChain v (pLeft p.list v) = true ∧ ∀ i, says (oEnd v (pLeft p.list v)) i = says (join v (pEnd p)) i := by
 obtain ⟨a, b⟩ := pFollow (v := v) (w := v) h.chain h.valid fun i => by have := hw i; omega
 exact ⟨a, fun i => by rw [b, join_says, pEnd_says]⟩
theorem pFloor_up (p : PPast) (to : Ints) : Within p.floor (pFloor p to) := (join_above _ _).1
theorem pFloor_end {p : PPast} (h : PaSound p) (to : Ints) : Within (pFloor p to) (pEnd p) := (join_least _ _ _).2 ⟨fun i => by rw [pEnd_says]; exact oEnd_up h.chain i, (meet_below _ _).2⟩
theorem pFloor_short (p : PPast) (to : Ints) : trim (pFloor p to) = pFloor p to := says_trim_short (join_short _ _)
theorem mem_pLeft {l : List PTxn} {v : Ints} {t : PTxn} : t ∈ pLeft l v ↔ t ∈ l ∧ pHeard v t = false := by
 unfold pLeft
 rw [List.mem_filter]
 cases pHeard v t <;> simp
theorem pPrune_sound {p : PPast} (h : PaSound p) (to : Ints) : PaSound (pPrune p to) ∧ pEnd (pPrune p to) = pEnd p := by
 obtain ⟨a, b⟩ := pKeeps h (pFloor_up p to)
 refine ⟨⟨pFloor_short p to, a, fun t ht => h.formed t (mem_pLeft.1 ht).1⟩, short_ext (pEnd_short _) (pEnd_short _) fun i => ?_⟩
 rw [pEnd_says]
 show says (oEnd (pFloor p to) (pLeft p.list (pFloor p to))) i = _
 rw [b, join_says]
 have := pFloor_end h to i
 omega
theorem pLeft_two {l : List PTxn} {u v : Ints} (h : Within u v) : pLeft (pLeft l u) v = pLeft l v := by
 unfold pLeft
 rw [List.filter_filter]
 apply List.filter_congr
 intro t _
 cases e : pHeard v t with
 | true => simp
 | false =>
  cases e2 : pHeard u t with
  | false => rfl
  | true => rw [pHeard_up h e2] at e; cases e
theorem pWithin_self (v : Ints) : Within v v := fun i => Int.le_refl _
theorem join_twice (a b : Ints) : join (join a b) b = join a b := short_ext (join_short _ _) (join_short _ _) fun i => by simp only [join_says]; omega
theorem pPrune_twice {p : PPast} (h : PaSound p) (to : Ints) : pPrune (pPrune p to) to = pPrune p to := by
 have e : pFloor (pPrune p to) to = pFloor p to := by
  unfold pFloor
  rw [(pPrune_sound h to).2]
  exact join_twice _ _
 refine ppast_ext e ?_
 show pLeft (pLeft p.list (pFloor p to)) (pFloor (pPrune p to) to) = pLeft p.list (pFloor p to)
 rw [e]
 exact pLeft_two (pWithin_self _)
theorem pLeft_all {l : List PTxn} {v : Ints} (h : ∀ t ∈ l, pHeard v t = false) : pLeft l v = l := List.filter_eq_self.2 fun t ht => by simp [h t ht]
theorem pAbove {p : PPast} (h : PaSound p) {t : PTxn} (ht : t ∈ p.list) : pHeard p.floor t = false := by
 have hv := oValid_iff.1 (h.valid t ht)
 have := oChain_above h.chain ht hv.1.1
 unfold pHeard
 rw [saysI_of hv.1.1, Bool.and_eq_false_iff]
 exact Or.inr (decide_eq_false (by omega))
theorem pPrune_nil {p : PPast} (h : PaSound p) : pPrune p [] = p := by
 have e : pFloor p [] = p.floor := by
  unfold pFloor
  have hm : meet [] (pEnd p) = [] := short_ext (meet_short _ _) ⟨fun i => by simp, fun k hk => by simp at hk⟩ fun i => by rw [meet_says, says_end [] i (Nat.zero_le _)]; have := says_pos (pEnd p) i; omega
  rw [hm, ← h.floor]
  exact short_ext (join_short _ _) (trim_short _) fun i => by rw [join_says, says_end [] i (Nat.zero_le _)]; have := says_pos (trim p.floor) i; omega
 refine ppast_ext e ?_
 show pLeft p.list (pFloor p []) = p.list
 rw [e]
 exact pLeft_all fun t ht => pAbove h ht
theorem pLeft_snoc (l : List PTxn) (t : PTxn) (v : Ints) : pLeft (l ++ [t]) v = if pHeard v t = true then pLeft l v else pLeft l v ++ [t] := by
 unfold pLeft
 rw [List.filter_append]
 cases e : pHeard v t <;> simp [e]
theorem pLeft_len (l : List PTxn) (v : Ints) : (pLeft l v).length ≤ l.length := List.length_filter_le _ _
end Go.Proofs.Ytajfliemmfdnhaa.Plain
