/- WORDS OF NO TYPE: what a row hands over, worlds behind one or two new blocks, draws, integers that fit. (Taken out of words/XWords and words/XMore, which hold the same: not both in one seat.) WORDS FOR SLICES OF WHATEVER: a kind of elements (how many cells, how they read: El), rows of cells that read as a list (Rows), slices that read as a list (Sq, SeqE), slices of the call's own (OwnE, MadeE), append. Of no package. -/
import Derived.Test.YtmknpmamkjjiaaaGreatRows
import Derived.WalkKit
import Derived.Outline
import Derived.Lib.Hide
import Derived.Laws.BitsAllLaws
import Derived.Maps.AppendAt
import Derived.OpenShut
import Derived.Laws.AppendOwnNone
import Derived.Lib.AppendStr
import Derived.Laws.IdiomStrings
import Derived.Laws.BytesArg
import Derived.BigQuiet
import Derived.Deep.QuietTactic
import Derived.WalkSmall
import Derived.IntWalk
import Derived.Deep.OwnRows
import Derived.OwnWalk
import Derived.Deep.RegionWith
import Derived.Deep.RegionHeld3
namespace Go.Proofs.YtmknpmamkjjiaaaGreat.Plain
end Go.Proofs.YtmknpmamkjjiaaaGreat.Plain
namespace Go.Proofs.YtmknpmamkjjiaaaGreat
open Go.RowKit Plain
set_option linter.unusedVariables false

/-- a slice that came in: nil, or cells that hold the numbers zs, each of its kind -/
def IsRow (k : IntKind) (w : World) (a : Option Addr) (len cap : Nat) (zs : List Int) : Prop :=
 (a = none ∧ len = 0 ∧ cap = 0 ∧ zs = []) ∨
 ∃ x, a = some x ∧ len ≤ cap ∧ cap ≤ maxLen ∧ zs.length = cap ∧ (∀ i, i < zs.length → w.cell? (x.add i) = some (.int k (zs.getD i 0))) ∧ ∀ n ∈ zs, (Lit.int k n).wf = true
/-- a contract that leaves the world alone, in a region that draws -/
theorem quiet_left {P : Program} {f : FuncId} {args : Array Value} {w : World} {n : Nat} {v : Value}
  (h : Calls P f args (w.drewN n) fun e w' => e = .returned v ∧ w.drewN n = w') : Calls P f args (w.drewN n) fun e w'' => e = .returned v ∧ ∃ m, w'' = w.drewN m :=
 h.mono fun _ _ ⟨he, hm⟩ => ⟨he, n, hm.symm⟩
theorem below_drewN {B : Nat} {w w' : World} (h : Below B w w') : ∀ n, Below B w (w'.drewN n)
 | 0 => h
 | n + 1 => (below_drewN h n).drew
theorem i64_in {n : Int} (h : (Lit.int .i64 n).wf = true) : -9223372036854775808 ≤ n ∧ n ≤ 9223372036854775807 := by simpa [Lit.wf, IntKind.min, IntKind.max, IntKind.signed, IntKind.bits] using h
end Go.Proofs.YtmknpmamkjjiaaaGreat
namespace Go.Proofs.YtmknpmamkjjiaaaGreat
open Go.RowKit Plain
set_option linter.unusedVariables false

/-- A kind of elements: k cells each, of type E (a slice of them: S); R P w vs x: the cells vs read as x in the world w, looking at blocks of P alone. -/
structure El (α : Type) where
 k : Nat
 E : TypeId
 S : TypeId
 zero : Value
 bytes : Nat
 R : (Nat → Prop) → World → List Value → α → Prop
 pos : 0 < k
 small : bytes ≤ 1024
 len : ∀ {P w vs x}, R P w vs x → vs.length = k
 one : ∀ {P w vs x}, R P w vs x → ∀ u ∈ vs, u.oneCell' = true
 mono : ∀ {P Q : Nat → Prop} {w vs x}, R P w vs x → (∀ b, P b → Q b) → R Q w vs x
 agree : ∀ {P : Nat → Prop} {w w' : World} {vs x}, R P w vs x → (∀ b, P b → w'.heap[b]? = w.heap[b]?) → R P w' vs x
 und : Tryz.prog.underlying S = some (.slice E)
 info : (Tryz.prog.info? E).map (fun i => (i.zero, i.size, i.bytes)) = some (some zero, k, bytes)
 zsize : zero.cells.size = k
variable {α : Type} {L : El α}

/-! ### rows of cells -/
/-- the cells of element j -/
def pt (k : Nat) (vals : List Value) (j : Nat) : List Value := (vals.drop (j * k)).take k
theorem pt_get {k : Nat} (vals : List Value) (j i : Nat) (hi : i < k) : (pt k vals j)[i]? = vals[j * k + i]? := by
 unfold pt
 rw [List.getElem?_take, if_pos hi, List.getElem?_drop]
theorem pt_left {k : Nat} {vals news : List Value} {j n : Nat} (hl : vals.length = n * k) (hj : j < n) : pt k (vals ++ news) j = pt k vals j := by
 have h : (j + 1) * k ≤ n * k := Nat.mul_le_mul_right k hj
 have e : (j + 1) * k = j * k + k := Nat.succ_mul j k
 unfold pt
 rw [List.drop_append_of_le_length (by omega), List.take_append_of_le_length (by rw [List.length_drop]; omega)]
theorem pt_right {k : Nat} {vals news : List Value} {j n : Nat} (hl : vals.length = n * k) : pt k (vals ++ news) (n + j) = pt k news j := by
 unfold pt
 rw [Nat.add_mul, ← hl, List.drop_append, List.drop_eq_nil_of_le (by omega), List.nil_append]
 congr 2
 omega
/-- these cells read as these elements -/
def Rows (L : El α) (P : Nat → Prop) (w : World) (vals : List Value) (xs : List α) : Prop := vals.length = xs.length * L.k ∧ ∀ j x, xs[j]? = some x → L.R P w (pt L.k vals j) x
theorem Rows.nil (P : Nat → Prop) (w : World) : Rows L P w [] [] := ⟨by simp, fun j x h => by simp at h⟩
theorem Rows.append {P : Nat → Prop} {w : World} {vals news : List Value} {xs ys : List α} (h : Rows L P w vals xs) (g : Rows L P w news ys) : Rows L P w (vals ++ news) (xs ++ ys) := by
 refine ⟨by rw [List.length_append, List.length_append, h.1, g.1, Nat.add_mul], fun j x hj => ?_⟩
 by_cases hlt : j < xs.length
 ·rw [List.getElem?_append_left hlt] at hj
  rw [pt_left h.1 hlt]
  exact h.2 j x hj
 ·rw [List.getElem?_append_right (by omega)] at hj
  have e : j = xs.length + (j - xs.length) := by omega
  rw [e, pt_right h.1]
  exact g.2 _ x hj
theorem Rows.of_one {P : Nat → Prop} {w : World} {vs : List Value} {x : α} (h : L.R P w vs x) : Rows L P w vs [x] := by
 refine ⟨by rw [L.len h]; simp, fun j y hj => ?_⟩
 have : j = 0 ∧ y = x := by
  cases j with
  | zero => simp at hj; exact ⟨rfl, hj.symm⟩
  | succ j => simp at hj
 obtain ⟨rfl, rfl⟩ := this
 unfold pt
 rw [Nat.zero_mul, List.drop_zero, List.take_of_length_le (by rw [L.len h]; exact Nat.le_refl _)]
 exact h
theorem Rows.mono {P Q : Nat → Prop} {w : World} {vals : List Value} {xs : List α} (h : Rows L P w vals xs) (hq : ∀ b, P b → Q b) : Rows L Q w vals xs := ⟨h.1, fun j x hj => L.mono (h.2 j x hj) hq⟩
theorem Rows.agree {P : Nat → Prop} {w w' : World} {vals : List Value} {xs : List α} (h : Rows L P w vals xs) (hq : ∀ b, P b → w'.heap[b]? = w.heap[b]?) : Rows L P w' vals xs := ⟨h.1, fun j x hj => L.agree (h.2 j x hj) hq⟩
theorem Rows.cells {P : Nat → Prop} {w : World} {vals : List Value} {xs : List α} (h : Rows L P w vals xs) : ∀ u ∈ vals, u.oneCell' = true := by
 intro u hu
 obtain ⟨i, hi, rfl⟩ := List.getElem_of_mem hu
 have hp := L.pos
 have hj : i / L.k < xs.length := by
  rw [Nat.div_lt_iff_lt_mul hp, ← h.1]; exact hi
 have hr := h.2 (i / L.k) _ (List.getElem?_eq_getElem hj)
 have e : i / L.k * L.k + i % L.k = i := by rw [Nat.mul_comm]; exact Nat.div_add_mod i L.k
 refine L.one hr _ (List.mem_of_getElem? (i := i % L.k) ?_)
 rw [pt_get _ _ _ (Nat.mod_lt i hp), e, List.getElem?_eq_getElem hi]

/-! ### slices that read as a list -/
/-- v is a slice whose elements read as xs; P: the blocks that are looked at -/
def Sq (L : El α) (P : Nat → Prop) (w : World) (v : Value) (xs : List α) : Prop :=
 ∃ a cap vals, v = .slice a xs.length cap ∧ xs.length ≤ cap ∧ cap ≤ maxLen ∧ (a = none → cap = 0) ∧ Rows L P w vals xs ∧
  (0 < xs.length → ∃ b off, a = some ⟨b, off, none⟩ ∧ P b ∧ ∀ i u, vals[i]? = some u → w.cell? ⟨b, off + i, none⟩ = some u)
theorem Sq.mono {P Q : Nat → Prop} {w : World} {v : Value} {xs : List α} (h : Sq L P w v xs) (hq : ∀ b, P b → Q b) : Sq L Q w v xs := by
 obtain ⟨a, cap, vals, e, h1, h2, h0, hr, h3⟩ := h
 refine ⟨a, cap, vals, e, h1, h2, h0, hr.mono hq, fun hp => ?_⟩
 obtain ⟨b, off, ea, hb, hc⟩ := h3 hp
 exact ⟨b, off, ea, hq b hb, hc⟩
theorem Sq.agree {P : Nat → Prop} {w w' : World} {v : Value} {xs : List α} (h : Sq L P w v xs) (hq : ∀ b, P b → w'.heap[b]? = w.heap[b]?) : Sq L P w' v xs := by
 obtain ⟨a, cap, vals, e, h1, h2, h0, hr, h3⟩ := h
 refine ⟨a, cap, vals, e, h1, h2, h0, hr.agree hq, fun hp => ?_⟩
 obtain ⟨b, off, ea, hb, hc⟩ := h3 hp
 exact ⟨b, off, ea, hb, fun i u hi => (World.cell?_of_block (w := w) (hq b hb)).trans (hc i u hi)⟩
/-- v is a slice whose elements read as xs -/
def SeqE (L : El α) (w : World) (v : Value) (xs : List α) : Prop := Sq L (· < w.heap.size) w v xs
theorem SeqE.below' {N : Nat} {w w' : World} {v : Value} {xs : List α} (h : SeqE L w v xs) (hb : Below N w w') (hN : w.heap.size ≤ N) : SeqE L w' v xs :=
 (Sq.agree h fun b hlt => hb.block b (Nat.lt_of_lt_of_le hlt hN)).mono fun b hlt => Nat.lt_of_lt_of_le hlt hb.size
theorem SeqE.below {w w' : World} {v : Value} {xs : List α} (h : SeqE L w v xs) (hb : Below w.heap.size w w') : SeqE L w' v xs := h.below' hb (Nat.le_refl _)
theorem SeqE.below_alloc {w : World} {v : Value} {xs : List α} (h : SeqE L w v xs) (o : Obj) : SeqE L (w.alloc o) v xs := h.below ((Below.refl _ _).alloc (Nat.le_refl _) _)
theorem SeqE.drawn {w : World} {v : Value} {xs : List α} (h : SeqE L w v xs) (n : Nat) : SeqE L (w.drewN n) v xs := h.below (below_drewN (Below.refl _ _) n)
theorem SeqE.nil (w : World) : SeqE L w (.slice none 0 0) [] := ⟨none, 0, [], rfl, Nat.zero_le _, Nat.zero_le _, fun _ => rfl, Rows.nil _ _, fun h => absurd h (by simp)⟩
theorem SeqE.empty (w : World) (a : Addr) (cap : Nat) (h : cap ≤ maxLen) : SeqE L w (.slice (some a) 0 cap) [] := ⟨some a, cap, [], rfl, Nat.zero_le _, h, (by simp), Rows.nil _ _, fun h => absurd h (by simp)⟩
/-- its parts -/
theorem SeqE.parts {w : World} {v : Value} {xs : List α} (h : SeqE L w v xs) : ∃ a cap, v = .slice a xs.length cap ∧ xs.length ≤ cap ∧ cap ≤ 9223372036854775807 ∧ (a = none → cap = 0) ∧ SeqE L w (.slice a xs.length cap) xs := by
 have h' := h
 obtain ⟨a, cap, vals, rfl, h1, h2, h0, -, -⟩ := h
 exact ⟨a, cap, rfl, h1, h2, h0, h'⟩
theorem SeqE.dims {w : World} {a : Option Addr} {n cap : Nat} {xs : List α} (h : SeqE L w (.slice a n cap) xs) : xs.length = n ∧ n ≤ cap ∧ cap ≤ 9223372036854775807 := by
 obtain ⟨a', cap', vals, hv, h1, h2, -⟩ := h
 simp only [Value.slice.injEq] at hv
 obtain ⟨rfl, rfl, rfl⟩ := hv
 exact ⟨rfl, h1, h2⟩
/-- where there is something it lies in a block: the cells of each element -/
theorem SeqE.spot {w : World} {v : Value} {xs : List α} (h : SeqE L w v xs) (hp : 0 < xs.length) : ∃ b o cap, v = .slice (some ⟨b, o, none⟩) xs.length cap ∧ xs.length ≤ cap ∧ cap ≤ 9223372036854775807 ∧ SeqE L w (.slice (some ⟨b, o, none⟩) xs.length cap) xs ∧
  ∀ j x, xs[j]? = some x → ∃ vs, L.R (· < w.heap.size) w vs x ∧ ∀ i u, vs[i]? = some u → w.cell? ⟨b, o + (j * L.k + i), none⟩ = some u := by
 have h' := h
 obtain ⟨a, cap, vals, rfl, h1, h2, h0, hr, h3⟩ := h
 obtain ⟨b, o, rfl, hb, hc⟩ := h3 hp
 refine ⟨b, o, cap, rfl, h1, h2, h', fun j x hj => ⟨_, hr.2 j x hj, fun i u hi => ?_⟩⟩
 have hik : i < L.k := by
  have := (List.getElem?_eq_some_iff.1 hi).1
  rw [L.len (hr.2 j x hj)] at this
  exact this
 rw [pt_get _ _ _ hik] at hi
 exact hc _ u hi
/-! ### slices of the call's own -/
/-- v is a slice of the call's own (its block from B on) whose elements read as xs; what they hold lies in other blocks -/
def OwnE (L : El α) (B : Nat) (w : World) (v : Value) (xs : List α) : Prop := ∃ vals, w.ownsRow B L.E L.k v xs.length vals ∧ Rows L (fun b => b < w.heap.size ∧ v.ownBlock ≠ some b) w vals xs
theorem OwnE.nil (B : Nat) (w : World) : OwnE L B w (.slice none 0 0) [] := ⟨[], World.ownsRow_nil _ _ _ _, Rows.nil _ _⟩
theorem OwnE.lt {B : Nat} {w : World} {v : Value} {xs : List α} (h : OwnE L B w v xs) : ∀ k, v.ownBlock = some k → B ≤ k ∧ k < w.heap.size := by
 obtain ⟨vals, ho, -⟩ := h
 exact World.ownsRow.lt ho
theorem OwnE.seq {B : Nat} {w : World} {v : Value} {xs : List α} (h : OwnE L B w v xs) : SeqE L w v xs := by
 have hlt := h.lt
 obtain ⟨vals, ho, hr⟩ := h
 have hr' := hr.mono (Q := (· < w.heap.size)) fun b hb => hb.1
 rcases ho.2 with ⟨rfl, hn⟩ | ⟨g, cap, cur, rfl, hb, hg, hnc, hcm, hcs, htake⟩
 ·refine ⟨none, 0, vals, by rw [hn], by omega, Nat.zero_le _, fun _ => rfl, hr', fun hp => absurd hp (by omega)⟩
 ·refine ⟨_, cap, vals, rfl, hnc, hcm, (by simp), hr', fun hp => ⟨g, 0, rfl, (hlt g rfl).2, fun i u hi => ?_⟩⟩
  have hil : i < xs.length * L.k := by rw [← hr.1]; exact (List.getElem?_eq_some_iff.1 hi).1
  rw [Nat.zero_add, World.ownsRow.cellAt ho i hil, hi]
theorem OwnE.mono {B C : Nat} {w : World} {v : Value} {xs : List α} (h : OwnE L B w v xs) (hc : C ≤ B) : OwnE L C w v xs := by
 obtain ⟨vals, ho, hr⟩ := h
 refine ⟨vals, ⟨ho.1, ?_⟩, hr⟩
 rcases ho.2 with hn | ⟨g, cap, cur, hv, hb, hg⟩
 ·exact .inl hn
 ·exact .inr ⟨g, cap, cur, hv, by omega, hg⟩
/-- a later world in which what is old stands -/
theorem OwnE.below {B N : Nat} {w w' : World} {v : Value} {xs : List α} (h : OwnE L B w v xs) (hb : Below N w w') (hN : w.heap.size ≤ N) : OwnE L B w' v xs := by
 obtain ⟨vals, ho, hr⟩ := h
 refine ⟨vals, ⟨ho.1, ?_⟩, (hr.agree fun b hq => hb.block b (Nat.lt_of_lt_of_le hq.1 hN)).mono fun b hq => ⟨Nat.lt_of_lt_of_le hq.1 hb.size, hq.2⟩⟩
 rcases ho.2 with hn | ⟨g, cap, cur, hv, hb', hg, hr'⟩
 ·exact .inl hn
 ·have hlt : g < w.heap.size := (Array.getElem?_eq_some_iff.1 hg).1
  exact .inr ⟨g, cap, cur, hv, hb', (hb.block g (by omega)).trans hg, hr'⟩
theorem OwnE.alloc {B : Nat} {w : World} {v : Value} {xs : List α} (h : OwnE L B w v xs) (o : Obj) : OwnE L B (w.alloc o) v xs := h.below ((Below.refl w.heap.size w).alloc (Nat.le_refl _) o) (Nat.le_refl _)
theorem OwnE.empty (w : World) (B : Nat) (hB : B ≤ w.heap.size) : OwnE L B (w.alloc (.cells #[] L.E)) (.slice (some ⟨w.heap.size, 0, none⟩) 0 0) [] :=
 ⟨[], World.ownsRow_made w #[] 0 hB (Nat.zero_le _) (by simp), Rows.nil _ _⟩
theorem OwnE.parts {B : Nat} {w : World} {v : Value} {xs : List α} (h : OwnE L B w v xs) : ∃ a cap, v = .slice a xs.length cap ∧ xs.length ≤ cap ∧ cap ≤ 9223372036854775807 ∧ OwnE L B w (.slice a xs.length cap) xs ∧ (a = none → cap = 0) := by
 obtain ⟨a, cap, rfl, h1, h2, h0, hs⟩ := h.seq.parts
 exact ⟨a, cap, rfl, h1, h2, h, h0⟩
/-- its parts, the length under a name of yours -/
theorem OwnE.at {B : Nat} {w : World} {v : Value} {xs : List α} (h : OwnE L B w v xs) (n : Nat) (hn : xs.length = n) : ∃ a cap, v = .slice a n cap ∧ (n : Int) ≤ cap ∧ (cap : Int) ≤ 9223372036854775807 ∧ OwnE L B w (.slice a n cap) xs := by
 subst hn
 obtain ⟨a, cap, rfl, h1, h2, h3, -⟩ := h.parts
 exact ⟨a, cap, rfl, by omega, by omega, h3⟩
/-- elements that are written out in the program's text, in a block of their own -/
theorem SeqE.lit (w : World) (C : Array Value) (xs : List α) (hr : Rows L (· < w.heap.size) w C.toList xs) (hl : xs.length ≤ 1000000) : SeqE L (w.alloc (.cells C L.E)) (.slice (some ⟨w.heap.size, 0, none⟩) xs.length xs.length) xs := by
 have hb := (Below.refl w.heap.size w).alloc (Nat.le_refl _) (.cells C L.E)
 refine ⟨_, xs.length, C.toList, rfl, Nat.le_refl _, by unfold maxLen; omega, (by simp), (hr.agree fun b h => hb.block b h).mono fun b h => by simp; omega, fun hp => ⟨w.heap.size, 0, rfl, by simp, fun i u hi => ?_⟩⟩
 rw [Nat.zero_add]
 rw [Array.getElem?_toList] at hi
 simp only [World.cell?_alloc_new, hi]
theorem SeqE.one {w : World} {vs : List Value} {x : α} (hr : L.R (· < w.heap.size) w vs x) (C : Array Value) (hC : C.toList = vs) : SeqE L (w.alloc (.cells C L.E)) (.slice (some ⟨w.heap.size, 0, none⟩) 1 1) [x] :=
 SeqE.lit w C [x] (by rw [hC]; exact Rows.of_one hr) (by simp)
/-- what a function that makes such a list answers -/
def MadeE (L : El α) (w : World) (xs : List α) (e : Ending) (w' : World) : Prop := ∃ v, e = .returned v ∧ OwnE L w.heap.size w' v xs ∧ Below w.heap.size w w'
/-! ### append -/
/-- a kind whose cells say all: nothing else is looked at -/
def Flat (L : El α) : Prop := ∀ {P Q : Nat → Prop} {w w' : World} {vs : List Value} {x : α}, L.R P w vs x → L.R Q w' vs x
theorem info_el (L : El α) : ∃ i, Tryz.prog.info? L.E = some i ∧ i.zero = some L.zero ∧ i.size = L.k ∧ i.bytes = L.bytes := by
 have h := L.info
 cases hi : Tryz.prog.info? L.E with
 | none => rw [hi] at h; simp at h
 | some i =>
  rw [hi] at h
  simp at h
  exact ⟨i, rfl, h.1, h.2.1, h.2.2⟩
theorem run_append_el {w : World} (B : Nat) (ty : TypeId) {v u : Value} {xs ys : List α} (hown : OwnE L B w v xs) {Q : Nat → Prop} (hseq : Sq L Q w u ys)
  (hI : ∀ vs x, L.R Q w vs x → L.R (fun b => b < w.heap.size ∧ v.ownBlock ≠ some b) w vs x) (hlen : xs.length + ys.length ≤ 1073741824) (hbase : B ≤ w.heap.size) :
  ∃ v' w', (Builtin.append_ #[L.S, L.S] ty #[v, u]).run Tryz.prog w = .ok v' w' ∧ OwnE L B w' v' (xs ++ ys) ∧ w.grownBy w' v.ownBlock ∧ (v'.ownBlock = v.ownBlock ∨ v'.ownBlock = some w.heap.size) := by
 obtain ⟨i0, hi, hz0, hz1, hz2⟩ := info_el L
 have hlt := hown.lt
 obtain ⟨vals, ho, hr⟩ := hown
 obtain ⟨a, cap, news, rfl, h1, h2, h0, hn, h3⟩ := hseq
 have hn' : Rows L (fun b => b < w.heap.size ∧ v.ownBlock ≠ some b) w news ys := ⟨hn.1, fun j x hj => hI _ _ (hn.2 j x hj)⟩
 have hsm := L.small
 cases a with
 | none =>
  obtain rfl := h0 rfl
  obtain rfl : ys = [] := List.eq_nil_of_length_eq_zero (by omega)
  refine ⟨v, w, run_append_owned_none (P := Tryz.prog) (w := w) B L.S ty L.E i0 L.k L.und hi v _ _ ho, ?_, World.grownBy.refl _ _, .inl rfl⟩
  rw [List.append_nil]
  exact ⟨vals, ho, hr⟩
 | some ad =>
  have hbytes : (xs.length + ys.length) * L.bytes ≤ 140737488355328 := by
   have := Nat.mul_le_mul hlen hsm
   omega
  obtain ⟨v', w', hrun, ho', hg, -, hat⟩ := run_append_own_at (P := Tryz.prog) w B L.S ty L.E i0 L.zero L.k L.bytes L.und hi hz0 hz1 hz2 L.zsize L.pos v _ _ ho ad ys.length cap news hn.1 (fun j u hu => by
    have hp : 0 < ys.length := by
     have h := (List.getElem?_eq_some_iff.1 hu).1
     rw [hn.1] at h
     rcases Nat.eq_zero_or_pos ys.length with e | e
     ·rw [e, Nat.zero_mul] at h; omega
     ·exact e
    obtain ⟨b, off, he, hc⟩ := h3 hp
    cases he
    rw [Addr.add_lit]
    exact hc.2 j u hu) (Rows.cells hn) (by unfold maxLen; omega) hbytes hbase
  refine ⟨v', w', hrun, ⟨vals ++ news, by rw [List.length_append]; exact ho', ?_⟩, hg, hat⟩
  refine (((hr.append hn').agree fun b hq => hg.block b hq.1 fun e => hq.2 e.symm).mono fun b hq => ⟨Nat.lt_of_lt_of_le hq.1 hg.size, ?_⟩)
  rcases hat with e | e
  ·rw [e]; exact hq.2
  ·rw [e]
   intro e2
   have := hq.1
   cases e2
   omega
/-- append of whatever slice reads as ys to a slice of the call's own -/
theorem wpList_append_el {w : World} {ops : Array Oper} {rest : List Oper} {o : Oper} {act : Act} {Q : Exit → Act → World → Prop} (L : El α) (hgd : o.guard = none) (s x : Operand)
  (ho : o.op = .call { callee := .builtin .append, args := #[s, x], argTypes := #[L.S, L.S] }) (B : Nat) {v u : Value} {xs ys : List α}
  (hs : act.eval s = v) (hown : OwnE L B w v xs) (hx : act.eval x = u) {K : Nat → Prop} (hseq : Sq L K w u ys) (hI : ∀ vs x, L.R K w vs x → L.R (fun b => b < w.heap.size ∧ v.ownBlock ≠ some b) w vs x) (hlen : xs.length + ys.length ≤ 1073741824) (hbase : B ≤ w.heap.size)
  (h : ∀ v' w', OwnE L B w' v' (xs ++ ys) → w.grownBy w' v.ownBlock → (v'.ownBlock = v.ownBlock ∨ v'.ownBlock = some w.heap.size) → wpList Tryz.prog ops Q rest (act.put o.dst v') w') : wpList Tryz.prog ops Q (o :: rest) act w := by
 refine wpList_plain hgd fun K hK => ?_
 obtain ⟨v', w', hr, h2, h3, h4⟩ := run_append_el B o.type hown hseq hI hlen hbase
 unfold Oper.wp execOp
 simp only [ho, resolve, invoke, builtin, Sem.run_bind, Sem.run_pure, Result.andThen_ok, List.map_toArray, List.map_cons, List.map_nil, hs, hx, hr]
 exact hK _ _ (h v' w' h2 h3 h4)
theorem holdC {w u u' : World} {R : Prop} (h : Below w.heap.size w u ∧ R) (hb : Below u.heap.size u u') : Below w.heap.size w u' := h.1.trans (hb.mono h.1.size)
/-- what a function answers that makes its list anew: it lies in blocks of the call's own -/
def GivesN (L : El α) (w : World) (xs : List α) (e : Ending) (w' : World) : Prop := ∃ v, e = .returned v ∧ Sq L (fun b => w.heap.size ≤ b ∧ b < w'.heap.size) w' v xs ∧ Below w.heap.size w w'
theorem OwnE.new {B : Nat} {w : World} {v : Value} {xs : List α} (hf : Flat L) (h : OwnE L B w v xs) : Sq L (fun b => B ≤ b ∧ b < w.heap.size) w v xs := by
 have hlt := h.lt
 obtain ⟨vals, ho, hr⟩ := h
 have hr' : Rows L (fun b => B ≤ b ∧ b < w.heap.size) w vals xs := ⟨hr.1, fun j x hj => hf (hr.2 j x hj)⟩
 rcases ho.2 with ⟨rfl, hn⟩ | ⟨g, cap, cur, rfl, hb, hg, hnc, hcm, hcs, htake⟩
 ·refine ⟨none, 0, vals, by rw [hn], by omega, Nat.zero_le _, fun _ => rfl, hr', fun hp => absurd hp (by omega)⟩
 ·refine ⟨_, cap, vals, rfl, hnc, hcm, (by simp), hr', fun hp => ⟨g, 0, rfl, hlt g rfl, fun i u hi => ?_⟩⟩
  have hil : i < xs.length * L.k := by rw [← hr.1]; exact (List.getElem?_eq_some_iff.1 hi).1
  rw [Nat.zero_add, World.ownsRow.cellAt ho i hil, hi]
theorem MadeE.new {w : World} {xs : List α} {e : Ending} {w' : World} (hf : Flat L) (h : MadeE L w xs e w') : GivesN L w xs e w' := by
 obtain ⟨v, he, ho, hb⟩ := h
 exact ⟨v, he, ho.new hf, hb⟩
theorem Sq.seq {B : Nat} {w : World} {v : Value} {xs : List α} (h : Sq L (fun b => B ≤ b ∧ b < w.heap.size) w v xs) : SeqE L w v xs := h.mono fun _ hb => hb.2
theorem tkA {P : Program} {ops : Array Oper} {Q : Exit → Act → World → Prop} {md : Region.Mode} {S : World → Prop} {i : Nat} {oi : Oper} {v : Value} {fuel : Nat} {listed : Array Bool} {a : Act} {w : World} (hi : ops[i]? = some oi) (hb : (Region.noSelect ops && (Region.free md ops listed i && (Region.ready md ops listed).contains i)) = true)
 (hQ : ∀ c a w, Q (.panic c) (a.put oi.dst v) w → Q (.panic c) a w) (hy : YieldsIf P ops S oi v a) (hS : S w) (h : wpAnyH P md ops Q S fuel (listed.setIfInBounds i true) (a.put oi.dst v) w) : wpAnyH P md ops Q S (fuel + 1) listed a w := by
 rw [Bool.and_eq_true, Bool.and_eq_true] at hb
 exact wpAnyH_take hi hb.1 hb.2.1 hb.2.2 hQ hy hS h
end Go.Proofs.YtmknpmamkjjiaaaGreat
