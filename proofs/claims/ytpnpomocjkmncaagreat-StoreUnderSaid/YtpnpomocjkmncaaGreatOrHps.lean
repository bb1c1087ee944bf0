/- Binary heaps in a list, as plain mathematics: what goes up, what goes down, what is the least. The library's heap over the program's own list of places: a row of numbers in a field of a variable; Len, Less, Swap, Push, Pop. -/
import Derived.Test.YtpnpomocjkmncaaGreatVWords
import Derived.RegionTactic
import Derived.ChangeAlike
import Derived.BigRegion
import Derived.Lib.OwnKind
import Derived.Deep.QuietTactic
import Derived.BigQuiet
import Derived.Deep.RegionHeld3
import Derived.Deep.Cut
import Derived.Deep.RegionLaw
namespace Go.Proofs.YtpnpomocjkmncaaGreat.Plain
set_option linter.unusedVariables false

def hat (h : List Int) (i : Nat) : Int := h.getD i 0
def hswap (h : List Int) (i j : Nat) : List Int := (h.set i (hat h j)).set j (hat h i)
theorem hat_lt {h : List Int} {i : Nat} (hi : i < h.length) : hat h i = h[i] := by unfold hat; simp [List.getD, hi]
theorem hswap_len (h : List Int) (i j : Nat) : (hswap h i j).length = h.length := by unfold hswap; simp
theorem hat_swap {h : List Int} {i j : Nat} (hi : i < h.length) (hj : j < h.length) (k : Nat) : hat (hswap h i j) k = if k = j then hat h i else if k = i then hat h j else hat h k := by
 unfold hswap
 show ((h.set i (hat h j)).set j (hat h i)).getD k 0 = _
 simp only [List.getD, List.getElem?_set, List.length_set]
 by_cases c : j = k
 ·subst c; simp [hj]
 ·rw [if_neg c, if_neg (fun e : k = j => c e.symm)]
  by_cases d : i = k
  ·subst d; simp [hi, hat]
  ·rw [if_neg (fun e : k = i => d e.symm)]
   simp [d, hat]
theorem hswap_perm {h : List Int} {i j : Nat} (hi : i < h.length) (hj : j < h.length) : (hswap h i j).Perm h := by
 unfold hswap
 rw [hat_lt hi, hat_lt hj]
 exact List.set_set_perm hi hj
def HeapTo (n : Nat) (h : List Int) : Prop := ∀ k, 0 < k → k < n → hat h ((k - 1) / 2) ≤ hat h k
def IsHeap (h : List Int) : Prop := HeapTo h.length h
structure UpI (h : List Int) (j : Nat) : Prop where
 one : ∀ k, 0 < k → k < h.length → k ≠ j → hat h ((k - 1) / 2) ≤ hat h k
 two : ∀ k, 0 < k → k < h.length → (k - 1) / 2 = j → 0 < j → hat h ((j - 1) / 2) ≤ hat h k
theorem UpI.stop {h : List Int} {j : Nat} (H : UpI h j) (hs : j = 0 ∨ ¬ hat h j < hat h ((j - 1) / 2)) : IsHeap h := fun k h0 hk => by
 by_cases c : k = j
 ·subst c
  rcases hs with e | e
  ·omega
  ·exact Int.not_lt.1 e
 ·exact H.one k h0 hk c
theorem UpI.step {h : List Int} {j : Nat} (H : UpI h j) (h0 : 0 < j) (hj : j < h.length) (hs : hat h j < hat h ((j - 1) / 2)) : UpI (hswap h ((j - 1) / 2) j) ((j - 1) / 2) := by
 have hi : (j - 1) / 2 < h.length := by omega
 have e := hat_swap hi hj
 generalize hI : (j - 1) / 2 = i at *
 constructor
 ·intro k k0 hk hne
  rw [hswap_len] at hk
  rw [e, e]
  by_cases c : k = j
  ·subst c
   rw [if_pos rfl, hI, if_neg (by omega), if_pos rfl]
   omega
  ·rw [if_neg c, if_neg hne]
   by_cases d : (k - 1) / 2 = j
   ·rw [if_pos d]
    rw [← hI]
    exact H.two k k0 hk d h0
   ·rw [if_neg d]
    have h1 := H.one k k0 hk c
    by_cases f : (k - 1) / 2 = i
    ·rw [if_pos f]; rw [f] at h1; omega
    ·rw [if_neg f]; exact h1
 ·intro k k0 hk hp i0
  rw [hswap_len] at hk
  rw [e, e, if_neg (show ¬ (i - 1) / 2 = j by omega), if_neg (show ¬ (i - 1) / 2 = i by omega)]
  have h2 := H.one i i0 hi (by omega)
  by_cases c : k = j
  ·rw [if_pos c]; exact h2
  ·rw [if_neg c, if_neg (by omega)]
   have h1 := H.one k k0 hk c
   rw [hp] at h1
   omega
structure DnI (n : Nat) (h : List Int) (i : Nat) : Prop where
 one : ∀ k, 0 < k → k < n → (k - 1) / 2 ≠ i → hat h ((k - 1) / 2) ≤ hat h k
 two : ∀ k, 0 < k → k < n → (k - 1) / 2 = i → 0 < i → hat h ((i - 1) / 2) ≤ hat h k
theorem DnI.stop {n : Nat} {h : List Int} {i : Nat} (H : DnI n h i) (hs : ∀ k, 0 < k → k < n → (k - 1) / 2 = i → hat h i ≤ hat h k) : HeapTo n h := fun k h0 hk => by
 by_cases c : (k - 1) / 2 = i
 ·rw [c]; exact hs k h0 hk c
 ·exact H.one k h0 hk c
theorem DnI.step {n : Nat} {h : List Int} {i j : Nat} (H : DnI n h i) (hn : n ≤ h.length) (h0 : 0 < j) (hj : j < n) (hp : (j - 1) / 2 = i) (hs : hat h j < hat h i) (hm : ∀ k, 0 < k → k < n → (k - 1) / 2 = i → hat h j ≤ hat h k) :
  DnI n (hswap h i j) j := by
 have e := hat_swap (h := h) (i := i) (j := j) (by omega) (by omega)
 constructor
 ·intro k k0 hk hne
  rw [e, e]
  by_cases c : k = j
  ·subst c
   rw [if_neg hne, if_pos hp, if_pos rfl]
   omega
  ·rw [if_neg hne, if_neg c]
   by_cases d : (k - 1) / 2 = i
   ·rw [if_pos d, if_neg (by omega)]; exact hm k k0 hk d
   ·rw [if_neg d]
    by_cases f : k = i
    ·rw [if_pos f]
     subst f
     exact H.two j h0 hj hp k0
    ·rw [if_neg f]; exact H.one k k0 hk d
 ·intro k k0 hk hpk _
  rw [e, e, if_neg (show ¬ (j - 1) / 2 = j by omega), if_pos hp, if_neg (show ¬ k = j by omega), if_neg (show ¬ k = i by omega)]
  have := H.one k k0 hk (by omega)
  rw [hpk] at this
  exact this
theorem HeapTo.least {n : Nat} {h : List Int} (H : HeapTo n h) : ∀ k, k < n → hat h 0 ≤ hat h k := by
 intro k
 induction k using Nat.strongRecOn with
 | ind k ih =>
  intro hk
  by_cases c : k = 0
  ·subst c; exact Int.le_refl _
  ·exact Int.le_trans (ih ((k - 1) / 2) (by omega) (by omega)) (H k (by omega) hk)
theorem heap_push {h : List Int} (H : IsHeap h) (x : Int) : UpI (h ++ [x]) h.length := by
 constructor
 ·intro k k0 hk hne
  rw [List.length_append, List.length_singleton] at hk
  have h1 : k < h.length := by omega
  have := H k k0 h1
  unfold hat at this ⊢
  simp only [List.getD] at this ⊢
  rw [List.getElem?_append_left h1, List.getElem?_append_left (by omega)]
  exact this
 ·intro k k0 hk hp _
  rw [List.length_append, List.length_singleton] at hk
  omega
theorem heap_pop {h : List Int} (H : IsHeap h) (h0 : 0 < h.length) : DnI (h.length - 1) (hswap h 0 (h.length - 1)) 0 := by
 have e := hat_swap (h := h) (i := 0) (j := h.length - 1) h0 (by omega)
 constructor
 ·intro k k0 hk hne
  rw [e, e, if_neg (by omega), if_neg (by omega), if_neg (by omega), if_neg (by omega)]
  exact H k k0 (by omega)
 ·intro k _ _ _ h; omega
theorem isHeap_nil : IsHeap [] := fun k _ hk => by simp at hk
theorem heap_take {n : Nat} {h : List Int} (H : HeapTo n h) (hn : n ≤ h.length) : IsHeap (h.take n) := fun k k0 hk => by
 rw [List.length_take] at hk
 have := H k k0 (by omega)
 unfold hat at this ⊢
 simp only [List.getD] at this ⊢
 rw [List.getElem?_take_of_lt (by omega), List.getElem?_take_of_lt (by omega)]
 exact this
theorem take_last {n : Nat} {h : List Int} (hn : h.length = n + 1) : h = h.take n ++ [hat h n] := by
 rw [hat_lt (by omega)]
 have := List.take_succ_eq_append_getElem (l := h) (i := n) (by omega)
 rw [← this, List.take_of_length_le (by omega)]
theorem mem_hat {h : List Int} {x : Int} (hx : x ∈ h) : ∃ i, i < h.length ∧ hat h i = x := by
 obtain ⟨i, hi, e⟩ := List.mem_iff_getElem.1 hx
 exact ⟨i, hi, by rw [hat_lt hi, e]⟩
end Go.Proofs.YtpnpomocjkmncaaGreat.Plain
namespace Go.Proofs.YtpnpomocjkmncaaGreat
open Go.RowKit Plain
set_option linter.unusedVariables false

structure ButF (F : Nat → Prop) (w w' : World) : Prop where
 os : w'.os = w.os
 tape : w'.tape = w.tape
 output : w'.output = w.output
 size : w.heap.size ≤ w'.heap.size
 block : ∀ k, k < w.heap.size → ¬ F k → w'.heap[k]? = w.heap[k]?
theorem ButF.refl (F : Nat → Prop) (w : World) : ButF F w w := ⟨rfl, rfl, rfl, Nat.le_refl _, fun _ _ _ => rfl⟩
theorem ButF.of {F : Nat → Prop} {w w' : World} (h : Below w.heap.size w w') : ButF F w w' := ⟨h.os, h.tape, h.output, h.size, fun k hk _ => h.block k hk⟩
theorem ButF.below {F : Nat → Prop} {B : Nat} {w w' : World} (h : ButF F w w') (hB : B ≤ w.heap.size) (hF : ∀ k, F k → B ≤ k) : Below B w w' :=
 ⟨h.os, h.tape, h.output, h.size, fun k hk => h.block k (by omega) fun f => by have := hF k f; omega⟩
theorem ButF.trans {F G : Nat → Prop} {a b c : World} (h : ButF F a b) (k : ButF G b c) (hG : ∀ x, x < a.heap.size → G x → F x) : ButF F a c :=
 ⟨k.os.trans h.os, k.tape.trans h.tape, k.output.trans h.output, Nat.le_trans h.size k.size, fun x hx hn => (k.block x (Nat.lt_of_lt_of_le hx h.size) fun g => hn (hG x hx g)).trans (h.block x hx hn)⟩
theorem ButF.mono {F G : Nat → Prop} {a b : World} (h : ButF F a b) (hG : ∀ x, x < a.heap.size → F x → G x) : ButF G a b := ⟨h.os, h.tape, h.output, h.size, fun x hx hn => h.block x hx fun f => hn (hG x hx f)⟩
theorem ButF.then {F : Nat → Prop} {a b c : World} (h : ButF F a b) (k : Below b.heap.size b c) : ButF F a c := h.trans (ButF.of (F := fun _ => False) k) fun _ _ f => f.elim
theorem ButF.set {F : Nat → Prop} {w : World} {g i : Nat} {v : Value} (hg : F g) : ButF F w (w.setCell ⟨g, i, none⟩ v) :=
 ⟨rfl, rfl, rfl, by simp [World.setCell], fun k _ hn => Below.heap_setCell _ _ _ _ fun e => hn (by rw [show k = g from e]; exact hg)⟩
theorem ButF.grown {F : Nat → Prop} {w w' : World} {row : Option Nat} (hg : w.grownBy w' row) (hr : ∀ k, row = some k → F k) : ButF F w w' :=
 ⟨hg.os, hg.tape, hg.output, hg.size, fun k hk hn => hg.block k hk fun e => hn (hr k e.symm)⟩
theorem ButF.drawn {F : Nat → Prop} {w w' : World} (h : ButF F w w') (n : Nat) : ButF F w (w'.drewN n) := h.then (below_drewN (Below.refl _ _) n)

theorem ButF.set2 (w : World) (b i j : Nat) (x y : Value) : ButF (fun k => k = b) w ((w.setCell ⟨b, i, none⟩ x).setCell ⟨b, j, none⟩ y).drew := by
 have h1 : ButF (fun k => k = b) w (w.setCell ⟨b, i, none⟩ x) := ButF.set rfl
 have h2 : ButF (fun k => k = b) (w.setCell ⟨b, i, none⟩ x) ((w.setCell ⟨b, i, none⟩ x).setCell ⟨b, j, none⟩ y) := ButF.set rfl
 exact (h1.trans h2 fun _ _ e => e).then (Below.refl _ _).drew

theorem run_append_intsS {w : World} (S : TypeId) (hS : Tryz.prog.underlying S = some (.slice 3)) (B : Nat) (ty : TypeId) {v u : Value} {xs ys : Ints} (hown : OwnsI B w v xs) (hseq : SeqI w u ys) (hlen : xs.length + ys.length ≤ 1073741824) (hbase : B ≤ w.heap.size) :
  ∃ v' w', (Builtin.append_ #[S, S] ty #[v, u]).run Tryz.prog w = .ok v' w' ∧ OwnsI B w' v' (xs ++ ys) ∧ w.grownBy w' v.ownBlock ∧ (v'.ownBlock = v.ownBlock ∨ v'.ownBlock = some w.heap.size) := by
 obtain ⟨i0, hi, hz0, hz1, hz2⟩ := info_parts infoI
 obtain ⟨a, cap, rfl, h1, h2, h0, h3⟩ := hseq
 cases a with
 | none =>
  obtain rfl := h0 rfl
  obtain rfl : ys = [] := List.eq_nil_of_length_eq_zero (by omega)
  refine ⟨v, w, run_append_owned_none (P := Tryz.prog) (w := w) B S ty 3 i0 1 hS hi v _ _ hown, ?_, World.grownBy.refl _ _, .inl rfl⟩
  rw [List.append_nil]; exact hown
 | some ad =>
  obtain ⟨v', w', hr, ho, hg, -, hat⟩ := run_append_own_at (P := Tryz.prog) w B S ty 3 i0 (.int .i64 0) 1 8 hS hi hz0 hz1 hz2 rfl (by decide) v _ _ hown ad ys.length cap (ys.map (Value.int .i64)) (by simp) (fun j u hu => by
    have hj : j < ys.length := by
     have := (List.getElem?_eq_some_iff.1 hu).1
     simpa using this
    obtain ⟨b, off, he, hc⟩ := h3 (by omega)
    cases he
    rw [getD_mapI ys j hj] at hu
    cases hu
    rw [Addr.add_lit]
    exact hc j hj) (ints_oneCell _) (by unfold maxLen; omega) (by omega) hbase
  exact ⟨v', w', hr, by unfold OwnsI; rw [List.length_append, List.map_append]; exact ho, hg, hat⟩
theorem step_append_ints {w : World} {ops : Array Oper} {o : Oper} {act : Act} {K : Act → World → Prop} {Q : Exit → Act → World → Prop} {E : Prop} (S : TypeId) (hS : Tryz.prog.underlying S = some (.slice 3)) (hw : Region.wanted o (yielded ops act.tmps) = true) (s x : Operand)
  (ho : o.op = .call { callee := .builtin .append, args := #[s, x], argTypes := #[S, S] }) (B : Nat) {v u : Value} {xs ys : Ints}
  (hs : act.eval s = v) (hown : OwnsI B w v xs) (hx : act.eval x = u) (hseq : SeqI w u ys) (hlen : xs.length + ys.length ≤ 1073741824) (hbase : B ≤ w.heap.size)
  (h : ∀ v' w', OwnsI B w' v' (xs ++ ys) → w.grownBy w' v.ownBlock → (v'.ownBlock = v.ownBlock ∨ v'.ownBlock = some w.heap.size) → K (act.put o.dst v') w') : if Region.wanted o (yielded ops act.tmps) = true then Oper.wp Tryz.prog o act w K Q else E := by
 rw [if_pos hw]
 obtain ⟨v', w', hr, h2, h3, h4⟩ := run_append_intsS S hS B o.type hown hseq hlen hbase
 unfold Oper.wp execOp
 simp only [ho, resolve, invoke, builtin, Sem.run_bind, Sem.run_pure, Result.andThen_ok, List.map_toArray, List.map_cons, List.map_nil, hs, hx, hr]
 exact h v' w' h2 h3 h4

def wbox (lv hv rv mv : Value) : Obj := .cells #[lv, hv, rv, mv] 114 (0, 0)
structure HpAt (w : World) (B g : Nat) (lv hv mv rv : Value) (xs : List Int) : Prop where
 box : w.heap[g]? = some (wbox lv hv rv mv)
 row : OwnsI B w rv xs
 low : B ≤ g
theorem HpAt.cell {w : World} {B g : Nat} {lv hv mv rv : Value} {xs : List Int} (h : HpAt w B g lv hv mv rv xs) :
  (w.cell? ⟨g, 0, none⟩ = some lv ∧ w.cell? ⟨g, 1, none⟩ = some hv ∧ w.cell? ⟨g, 2, none⟩ = some rv ∧ w.cell? ⟨g, 3, none⟩ = some mv) ∧ w.frozen? ⟨g, 1, none⟩ = false ∧ w.frozen? ⟨g, 2, none⟩ = false := by
 have hb := h.box
 unfold wbox at hb
 refine ⟨⟨?_, ?_, ?_, ?_⟩, ?_, ?_⟩
 ·simp [World.cell?, hb]
 ·simp [World.cell?, hb]
 ·simp [World.cell?, hb]
 ·simp [World.cell?, hb]
 ·unfold World.frozen?; rw [hb]; simp
 ·unfold World.frozen?; rw [hb]; simp
theorem HpAt.lt {w : World} {B g : Nat} {lv hv mv rv : Value} {xs : List Int} (h : HpAt w B g lv hv mv rv xs) : g < w.heap.size := (Array.getElem?_eq_some_iff.1 h.box).1
theorem wait_ne_int : 114 ≠ 3 := by decide
theorem HpAt.apart {w : World} {B g : Nat} {lv hv mv rv : Value} {xs : List Int} (h : HpAt w B g lv hv mv rv xs) : rv.ownBlock ≠ some g := by
 intro e
 obtain ⟨c, fz, hk⟩ := Lib.ownsRow_kind h.row g e
 rw [h.box] at hk
 simp only [wbox, Option.some.injEq, Obj.cells.injEq] at hk
 exact wait_ne_int hk.2.1
theorem HpAt.below {w w' : World} {B g : Nat} {lv hv mv rv : Value} {xs : List Int} (h : HpAt w B g lv hv mv rv xs) (hb : Below w.heap.size w w') : HpAt w' B g lv hv mv rv xs :=
 ⟨(hb.block g h.lt).trans h.box, h.row.below hb (Nat.le_refl _), h.low⟩
theorem HpAt.drawn {w : World} {B g : Nat} {lv hv mv rv : Value} {xs : List Int} (h : HpAt w B g lv hv mv rv xs) (n : Nat) : HpAt (w.drewN n) B g lv hv mv rv xs := h.below (below_drewN (Below.refl _ _) n)
theorem OwnsI.keep {B : Nat} {w w' : World} {v : Value} {xs : List Int} (h : OwnsI B w v xs) (hk : ∀ k, v.ownBlock = some k → w'.heap[k]? = w.heap[k]?) : OwnsI B w' v xs := by
 refine ⟨h.1, ?_⟩
 rcases h.2 with hn | ⟨g, cap, cur, hv, hb', hg, hr⟩
 ·exact .inl hn
 ·exact .inr ⟨g, cap, cur, hv, hb', (hk g (by rw [hv]; rfl)).trans hg, hr⟩
structure HpTo (g : Nat) (w : World) (rv : Value) (w' : World) (rv' : Value) : Prop where
 but : ButF (fun k => k = g ∨ rv.ownBlock = some k) w w'
 own : ∀ k, rv'.ownBlock = some k → rv.ownBlock = some k ∨ w.heap.size ≤ k
theorem HpTo.refl (g : Nat) (w : World) (rv : Value) : HpTo g w rv w rv := ⟨ButF.refl _ _, fun _ h => .inl h⟩
theorem HpTo.trans {g : Nat} {a b c : World} {x y z : Value} (h : HpTo g a x b y) (k : HpTo g b y c z) : HpTo g a x c z :=
 ⟨h.but.trans k.but fun n hn e => e.imp id fun e => (h.own n e).resolve_right (by omega), fun n e => (k.own n e).elim (h.own n) fun l => .inr (Nat.le_trans h.but.size l)⟩
theorem HpTo.drawn {g : Nat} {a b : World} {x y : Value} (h : HpTo g a x b y) (n : Nat) : HpTo g a x (b.drewN n) y := ⟨h.but.drawn n, h.own⟩
theorem HpAt.spot {w : World} {B g : Nat} {lv hv mv rv : Value} {xs : List Int} (h : HpAt w B g lv hv mv rv xs) (hp : 0 < xs.length) : ∃ b c, rv = .slice (some ⟨b, 0, none⟩) xs.length c ∧ xs.length ≤ c ∧ c ≤ maxLen := by
 rcases h.row.2 with ⟨-, hn⟩ | ⟨b, c, cur, rfl, -, -, hnc, hcm, -⟩
 ·omega
 ·exact ⟨b, c, rfl, hnc, hcm⟩

theorem HpAt.app {w u : World} {B g : Nat} {lv hv mv rv v : Value} {xs ys : List Int} {o : Obj} (h : HpAt w B g lv hv mv rv xs) (ho : OwnsI B u v ys) (hg : (w.drew.alloc o).grownBy u rv.ownBlock) (hat : v.ownBlock = rv.ownBlock ∨ v.ownBlock = some (w.drew.alloc o).heap.size) :
  (u.cell? ⟨g, 2, none⟩ = some rv ∧ u.frozen? ⟨g, 2, none⟩ = false) ∧ HpAt (u.setCell ⟨g, 2, none⟩ v) B g lv hv mv v ys ∧ HpTo g w rv (u.setCell ⟨g, 2, none⟩ v) v := by
 have hz : (w.drew.alloc o).heap.size = w.heap.size + 1 := by simp
 have hlt := h.lt
 have hbx : u.heap[g]? = some (wbox lv hv rv mv) := (hg.block g (by omega) fun e => h.apart e.symm).trans ((Below.heap_alloc _ _ _ hlt).trans h.box)
 have hne : v.ownBlock ≠ some g := by
  rcases hat with e | e
  ·rw [e]; exact h.apart
  ·rw [e, hz]; intro e2; cases e2; omega
 refine ⟨?_, ⟨heap_setCell_same _ g 2 _ _ _ hbx, ho.keep fun k hk => Below.heap_setCell _ _ _ _ fun e => hne (by rw [hk, show k = g from e]), h.low⟩, ?_, ?_⟩
 ·unfold wbox at hbx
  refine ⟨by simp [World.cell?, hbx], ?_⟩
  unfold World.frozen?; rw [hbx]; simp
 ·have h1 : ButF (fun k => k = g ∨ rv.ownBlock = some k) w (w.drew.alloc o) := ButF.of ((Below.refl _ _).drew.alloc (Nat.le_refl _) o)
  have h2 : ButF (fun k => k = g ∨ rv.ownBlock = some k) w u := h1.trans (ButF.grown (F := fun k => rv.ownBlock = some k) hg fun k e => e) fun k _ e => .inr e
  exact h2.trans (ButF.set (F := fun k => k = g) rfl) fun k _ e => .inl e
 ·intro k hk
  rcases hat with e | e
  ·rw [e] at hk; exact .inl hk
  ·rw [e, hz] at hk; cases hk; exact .inr (by omega)

set_option maxRecDepth 100000 in
theorem hlen_any (w : World) (a : Option Addr) (n c : Nat) : Calls Tryz.prog 130 #[.slice a n c] w fun e w' => e = .returned (.int .i64 n) ∧ w = w' := by
 go_enter Tryz.func130, Tryz.ntmps130
 go_wp2_with fail
 go_ret
 exact ⟨rfl, rfl⟩
set_option maxRecDepth 100000 in
set_option maxHeartbeats 2000000 in
theorem hless_any {B : Nat} {w : World} {b n c : Nat} {xs : List Int} (h : OwnsI B w (.slice (some ⟨b, 0, none⟩) n c) xs) {i j : Nat} (hi : i < n) (hj : j < n) :
  Calls Tryz.prog 210 #[.slice (some ⟨b, 0, none⟩) n c, .int .i64 i, .int .i64 j] w fun e w' => e = .returned (.bool (decide (hat xs i < hat xs j))) ∧ ∃ q, w' = w.drewN q := by
 have hd := h.seq.dims
 have ci := h.cell i (by omega)
 have cj := h.cell j (by omega)
 have e1 : xs.getD i 0 = hat xs i := rfl
 have e2 : xs.getD j 0 = hat xs j := rfl
 rw [e1] at ci
 rw [e2] at cj
 obtain ⟨-, d1, d2⟩ := hd
 clear e1 e2 h
 generalize hat xs i = x at *
 generalize hat xs j = y at *
 go_enter Tryz.func210, Tryz.ntmps210
 go_wp2_with fail
 go_quiet (fail)
 go_wp2_with fail
 go_ret
 exact ⟨rfl, _, rfl⟩
set_option maxRecDepth 100000 in
set_option maxHeartbeats 2000000 in
theorem hswap_any {B : Nat} {w : World} {b n c : Nat} {xs : List Int} (h : OwnsI B w (.slice (some ⟨b, 0, none⟩) n c) xs) {i j : Nat} (hi : i < n) (hj : j < n) :
  Calls Tryz.prog 212 #[.slice (some ⟨b, 0, none⟩) n c, .int .i64 i, .int .i64 j] w fun e w' => e = .returned (.tuple #[]) ∧ OwnsI B w' (.slice (some ⟨b, 0, none⟩) n c) (hswap xs i j) ∧ ButF (fun k => k = b) w w' := by
 have hd := h.seq.dims
 have ci := h.cell i (by omega)
 have cj := h.cell j (by omega)
 have fi := h.free i
 have fj := h.free j
 have e1 : xs.getD i 0 = hat xs i := rfl
 have e2 : xs.getD j 0 = hat xs j := rfl
 rw [e1] at ci
 rw [e2] at cj
 obtain ⟨-, d1, d2⟩ := hd
 have HS : Hid (OwnsI B ((w.setCell ⟨b, i, none⟩ (.int .i64 (hat xs j))).setCell ⟨b, j, none⟩ (.int .i64 (hat xs i))) (.slice (some ⟨b, 0, none⟩) n c) (hswap xs i j)) := Lib.hid ((h.set i _).set j _)
 clear e1 e2 h
 generalize hat xs i = x at *
 generalize hat xs j = y at *
 obtain ⟨v', hy'⟩ := cell?_setCell_some (w := w) (p := ⟨b, i, none⟩) (x := .int .i64 y) (q := ⟨b, j, none⟩) cj
 go_enter Tryz.func212, Tryz.ntmps212
 go_wp2_with fail
 go_region
 all_goals (try go_wp2_with fail)
 all_goals go_end0
 all_goals exact ⟨rfl, HS.out.below (Below.refl _ _).drew (Nat.le_refl _), ButF.set2 w b i j _ _⟩

theorem mlen {w : World} {g : Nat} {rv : Value} (h : w.cell? ⟨g, 2, none⟩ = some rv) : (method 316 147 (.pointer (some ⟨g, 2, none⟩)) "Len").run Tryz.prog w = .ok (130, rv) w := by
 have e : (method 316 147 (.pointer (some ⟨g, 2, none⟩)) "Len").run Tryz.prog w = (match w.cell? ⟨g, 2, none⟩ with
   | some v => .ok (130, v) w
   | none => match w.farLoad Tryz.prog ⟨g, 2, none⟩ (Mode.plain == .atomic) with
    | .ok (v, _) => .ok (130, v) w
    | .error h => .halt h w : Result (FuncId × Value)) := by kernel_rfl
 rw [e, h]
theorem mless {w : World} {g : Nat} {rv : Value} (h : w.cell? ⟨g, 2, none⟩ = some rv) : (method 316 147 (.pointer (some ⟨g, 2, none⟩)) "Less").run Tryz.prog w = .ok (210, rv) w := by
 have e : (method 316 147 (.pointer (some ⟨g, 2, none⟩)) "Less").run Tryz.prog w = (match w.cell? ⟨g, 2, none⟩ with
   | some v => .ok (210, v) w
   | none => match w.farLoad Tryz.prog ⟨g, 2, none⟩ (Mode.plain == .atomic) with
    | .ok (v, _) => .ok (210, v) w
    | .error h => .halt h w : Result (FuncId × Value)) := by kernel_rfl
 rw [e, h]
theorem mswap {w : World} {g : Nat} {rv : Value} (h : w.cell? ⟨g, 2, none⟩ = some rv) : (method 316 147 (.pointer (some ⟨g, 2, none⟩)) "Swap").run Tryz.prog w = .ok (212, rv) w := by
 have e : (method 316 147 (.pointer (some ⟨g, 2, none⟩)) "Swap").run Tryz.prog w = (match w.cell? ⟨g, 2, none⟩ with
   | some v => .ok (212, v) w
   | none => match w.farLoad Tryz.prog ⟨g, 2, none⟩ (Mode.plain == .atomic) with
    | .ok (v, _) => .ok (212, v) w
    | .error h => .halt h w : Result (FuncId × Value)) := by kernel_rfl
 rw [e, h]
theorem mpush (w : World) (g : Nat) : (method 316 147 (.pointer (some ⟨g, 2, none⟩)) "Push").run Tryz.prog w = .ok (214, .pointer (some ⟨g, 2, none⟩)) w := by kernel_rfl
theorem mpop (w : World) (g : Nat) : (method 316 147 (.pointer (some ⟨g, 2, none⟩)) "Pop").run Tryz.prog w = .ok (213, .pointer (some ⟨g, 2, none⟩)) w := by kernel_rfl
theorem nlen (w : World) (g : Nat) : (nilAhead 316 147 (.pointer (some ⟨g, 2, none⟩)) "Len").run Tryz.prog w = .ok (some false) w := by kernel_rfl
theorem nless (w : World) (g : Nat) : (nilAhead 316 147 (.pointer (some ⟨g, 2, none⟩)) "Less").run Tryz.prog w = .ok (some false) w := by kernel_rfl
theorem nswap (w : World) (g : Nat) : (nilAhead 316 147 (.pointer (some ⟨g, 2, none⟩)) "Swap").run Tryz.prog w = .ok (some false) w := by kernel_rfl
theorem npush (w : World) (g : Nat) : (nilAhead 316 147 (.pointer (some ⟨g, 2, none⟩)) "Push").run Tryz.prog w = .ok (some false) w := by kernel_rfl
theorem npop (w : World) (g : Nat) : (nilAhead 316 147 (.pointer (some ⟨g, 2, none⟩)) "Pop").run Tryz.prog w = .ok (some false) w := by kernel_rfl

theorem tassert (x : Int) (w : World) : (Instr.typeAssert (.iface 3 (.int .i64 x)) 20 3 false).run Tryz.prog w = .ok (.int .i64 x) w := by kernel_rfl
set_option maxRecDepth 100000 in
set_option maxHeartbeats 4000000 in
theorem ppush_any {w : World} {B g : Nat} {lv hv mv rv : Value} {xs : List Int} (h : HpAt w B g lv hv mv rv xs) (hB : B ≤ w.heap.size) (x : Int) (hl : xs.length ≤ 1000000) :
  Calls Tryz.prog 214 #[.pointer (some ⟨g, 2, none⟩), .iface 3 (.int .i64 x)] w fun e w' => e = .returned (.tuple #[]) ∧ ∃ rv', HpAt w' B g lv hv mv rv' (xs ++ [x]) ∧ HpTo g w rv w' rv' := by
 obtain ⟨⟨-, -, c2, -⟩, -, f2⟩ := h.cell
 have H := Lib.hid h
 have LT := Lib.hid h.lt
 clear h
 have tA := tassert x
 have cA : ∀ o, (w.alloc o).cell? ⟨g, 2, none⟩ = some rv := fun o => (H.out.below ((Below.refl _ _).alloc (Nat.le_refl _) o)).cell.1.2.2.1
 go_enter Tryz.func214, Tryz.ntmps214
 go_wp2_with fail
 go_region_law (refine step_append_ints 110 Tryz.underlying110 (by rfl) _ _ (by rfl) B (by rfl) ((H.out.row.below (Below.refl _ _).drew (Nat.le_refl _)).alloc _) (by rfl) (SeqI.one _ x) (by simp; omega) (by simp; omega) ?_; intro v2 u2 ho2 hg2 hat; have HA := Lib.hid (H.out.app ho2 hg2 hat); obtain ⟨⟨t2, t3⟩, -⟩ := HA.out; obtain ⟨a2, k2, rfl, -, -, -, -⟩ := ho2.parts)
 all_goals (try go_wp2_with fail)
 all_goals go_end0
 all_goals (have Z := HA.out; rw [show (xs ++ [x]).length = xs.length + 1 by simp] at Z; exact ⟨rfl, _, Z.2.1, Z.2.2⟩)

theorem OwnsI.cut {B : Nat} {w : World} {b n c : Nat} {xs : List Int} (h : OwnsI B w (.slice (some ⟨b, 0, none⟩) n c) xs) (m : Nat) (hm : m ≤ n) : OwnsI B w (.slice (some ⟨b, 0, none⟩) m c) (xs.take m) := by
 have hd := h.seq.dims.1
 have hl : (xs.take m).length = m := by rw [List.length_take]; omega
 unfold OwnsI at h ⊢
 rw [hl]
 refine ⟨by rw [List.length_map, hl, Nat.mul_one], .inr ?_⟩
 rcases h.2 with ⟨e, -⟩ | ⟨g, cap, cur, hv, hb, hg, hnc, hcm, hcs, ht⟩
 ·cases e
 ·simp only [Value.slice.injEq, Option.some.injEq, Addr.mk.injEq, and_true] at hv
  obtain ⟨rfl, -, rfl⟩ := hv
  refine ⟨b, c, cur, rfl, hb, hg, by omega, hcm, hcs, ?_⟩
  rw [List.map_take, ← ht, List.take_take]
  congr 1
  omega
theorem HpAt.put {w : World} {B g : Nat} {lv hv mv rv v : Value} {xs ys : List Int} (h : HpAt w B g lv hv mv rv xs) (ho : OwnsI B w v ys) (he : v.ownBlock = rv.ownBlock) : HpAt (w.setCell ⟨g, 2, none⟩ v) B g lv hv mv v ys ∧ HpTo g w rv (w.setCell ⟨g, 2, none⟩ v) v :=
 ⟨⟨heap_setCell_same _ g 2 _ _ _ h.box, ho.keep fun k hk => Below.heap_setCell _ _ _ _ fun e => h.apart (by rw [← he, hk, show k = g from e]), h.low⟩, ButF.set (.inl rfl), fun k hk => .inl (by rw [← he]; exact hk)⟩
theorem HpAt.swapped {w w' : World} {B g b n c : Nat} {lv hv mv : Value} {xs ys : List Int} (h : HpAt w B g lv hv mv (.slice (some ⟨b, 0, none⟩) n c) xs) (ho : OwnsI B w' (.slice (some ⟨b, 0, none⟩) n c) ys) (hb : ButF (fun k => k = b) w w') :
  HpAt w' B g lv hv mv (.slice (some ⟨b, 0, none⟩) n c) ys ∧ HpTo g w (.slice (some ⟨b, 0, none⟩) n c) w' (.slice (some ⟨b, 0, none⟩) n c) :=
 ⟨⟨(hb.block g h.lt fun e => h.apart (by rw [e]; rfl)).trans h.box, ho, h.low⟩, hb.mono fun k _ e => .inr (by rw [e]; rfl), fun k hk => .inl hk⟩
set_option maxRecDepth 100000 in
set_option maxHeartbeats 2000000 in
theorem ppop_any {w : World} {B g : Nat} {lv hv mv rv : Value} {xs : List Int} (h : HpAt w B g lv hv mv rv xs) (n : Nat) (hn : xs.length = n + 1) :
  Calls Tryz.prog 213 #[.pointer (some ⟨g, 2, none⟩)] w fun e w' => e = .returned (.iface 3 (.int .i64 (hat xs n))) ∧ ∃ rv', HpAt w' B g lv hv mv rv' (xs.take n) ∧ HpTo g w rv w' rv' := by
 obtain ⟨b, c, rfl, d1, d2⟩ := h.spot (by omega)
 have hm : maxLen = 9223372036854775807 := rfl
 rw [hm] at d2
 have HP := Lib.hid (h.put (h.row.cut n (by omega)) rfl)
 obtain ⟨⟨-, -, c2, -⟩, -, f2⟩ := h.cell
 have ci := h.row.cell n (by omega)
 have e1 : xs.getD n 0 = hat xs n := rfl
 rw [e1] at ci
 rw [hn] at d1 c2 HP ⊢
 clear h e1
 generalize hat xs n = x at *
 go_enter Tryz.func213, Tryz.ntmps213
 go_wp2_with fail
 go_ret
 exact ⟨rfl, _, HP.out⟩
end Go.Proofs.YtpnpomocjkmncaaGreat
