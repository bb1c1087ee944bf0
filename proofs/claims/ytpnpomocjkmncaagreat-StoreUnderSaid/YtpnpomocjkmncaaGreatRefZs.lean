/- WORDS FOR TEXTS: slices that read as a list of texts (nil, empty, cut), slices of the call's own, append, make. (Turned out of words/XWords, XMore, XMake.) What an argument that is a slice of texts hands over. -/
import Derived.Test.YtpnpomocjkmncaaGreatEls
import Derived.Test.YtpnpomocjkmncaaGreatMaths
import Derived.Laws.Cover1
import Derived.Sort.Walk0
import Derived.Deep.OwnRows
import Derived.OwnWalk
import Derived.OpenShut
import Derived.Deep.Slices
import Derived.Deep.Strs
import Derived.BigQuiet
import Derived.Deep.LoopGhost
namespace Go.Proofs.YtpnpomocjkmncaaGreat
open Go.RowKit Plain
set_option linter.unusedVariables false

def bt (t : Txt) : ByteArray := ⟨t.toArray⟩
def tx (s : ByteArray) : Txt := s.data.toList
theorem tx_bt (t : Txt) : tx (bt t) = t := rfl
theorem bt_tx (s : ByteArray) : bt (tx s) = s := rfl
theorem bt_inj {a b : Txt} (h : bt a = bt b) : a = b := by rw [← tx_bt a, h, tx_bt]
theorem bt_size (t : Txt) : (bt t).size = t.length := rfl
def tv (t : Txt) : Value := .string (bt t)
def SeqT (w : World) (v : Value) (xs : List Txt) : Prop :=
 ∃ a cap, v = .slice a xs.length cap ∧ xs.length ≤ cap ∧ cap ≤ maxLen ∧ (a = none → cap = 0) ∧
  (0 < xs.length → ∃ b off, a = some ⟨b, off, none⟩ ∧ ∀ j, j < xs.length → w.cell? ⟨b, off + j, none⟩ = some (tv (xs.getD j [])))
theorem SeqT.nil (w : World) : SeqT w (.slice none 0 0) [] := ⟨none, 0, rfl, Nat.zero_le _, Nat.zero_le _, fun _ => rfl, fun h => absurd h (by simp)⟩
theorem SeqT.below' {N : Nat} {w w' : World} {v : Value} {xs : List Txt} (h : SeqT w v xs) (hb : Below N w w') (hN : w.heap.size ≤ N) : SeqT w' v xs := by
 obtain ⟨a, cap, rfl, h1, h2, h0, h3⟩ := h
 refine ⟨a, cap, rfl, h1, h2, h0, fun hp => ?_⟩
 obtain ⟨b, off, rfl, hc⟩ := h3 hp
 refine ⟨b, off, rfl, fun j hj => ?_⟩
 have hlt : b < w.heap.size := World.block_lt_of_cell? w ⟨b, off + j, none⟩ (hc j hj)
 exact (hb.cell (p := ⟨b, off + j, none⟩) (show b < N by omega)).trans (hc j hj)
theorem SeqT.below {w w' : World} {v : Value} {xs : List Txt} (h : SeqT w v xs) (hb : Below w.heap.size w w') : SeqT w' v xs := SeqT.below' h hb (Nat.le_refl _)
theorem SeqT.below_alloc {w : World} {v : Value} {xs : List Txt} (h : SeqT w v xs) (o : Obj) : SeqT (w.alloc o) v xs := h.below ((Below.refl _ _).alloc (Nat.le_refl _) _)
theorem SeqT.parts {w : World} {v : Value} {xs : List Txt} (h : SeqT w v xs) : ∃ a cap, v = .slice a xs.length cap ∧ xs.length ≤ cap ∧ cap ≤ maxLen ∧ (a = none → cap = 0) ∧ SeqT w (.slice a xs.length cap) xs := by
 have h' := h
 obtain ⟨a, cap, rfl, h1, h2, h0, h3⟩ := h
 exact ⟨a, cap, rfl, h1, h2, h0, h'⟩
theorem SeqT.spot {w : World} {v : Value} {xs : List Txt} (h : SeqT w v xs) (hp : 0 < xs.length) : ∃ b o cap, v = .slice (some ⟨b, o, none⟩) xs.length cap ∧ xs.length ≤ cap ∧ cap ≤ maxLen ∧ SeqT w (.slice (some ⟨b, o, none⟩) xs.length cap) xs ∧ ∀ j, j < xs.length → w.cell? ⟨b, o + j, none⟩ = some (tv (xs.getD j [])) := by
 have h' := h
 obtain ⟨a, cap, rfl, h1, h2, h0, h3⟩ := h
 obtain ⟨b, o, rfl, hc⟩ := h3 hp
 exact ⟨b, o, cap, rfl, h1, h2, h', hc⟩
def OwnsT (B : Nat) (w : World) (v : Value) (xs : List Txt) : Prop := w.ownsRow B 9 1 v xs.length (xs.map tv)
theorem OwnsT.nil (B : Nat) (w : World) : OwnsT B w (.slice none 0 0) [] := World.ownsRow_nil _ _ _ _
theorem getD_mapT (xs : List Txt) (j : Nat) (hj : j < xs.length) : (xs.map tv)[j]? = some (tv (xs.getD j [])) := by
 simp [List.getD, List.getElem?_eq_getElem hj]
theorem OwnsT.seq {B : Nat} {w : World} {v : Value} {xs : List Txt} (h : OwnsT B w v xs) : SeqT w v xs := by
 have h' := h
 rcases h.2 with ⟨rfl, hn⟩ | ⟨g, cap, cur, rfl, hb, hg, hnc, hcm, hcs, htake⟩
 ·obtain rfl : xs = [] := List.eq_nil_of_length_eq_zero hn
  exact SeqT.nil w
 ·refine ⟨_, cap, rfl, hnc, hcm, (by simp), fun hp => ⟨g, 0, rfl, fun j hj => ?_⟩⟩
  have := World.ownsRow.cellAt h' j (by omega)
  rw [Nat.zero_add, this, getD_mapT xs j hj]
theorem OwnsT.parts {B : Nat} {w : World} {v : Value} {xs : List Txt} (h : OwnsT B w v xs) : ∃ a cap, v = .slice a xs.length cap ∧ xs.length ≤ cap ∧ cap ≤ maxLen ∧ OwnsT B w (.slice a xs.length cap) xs ∧ (a = none → cap = 0) := by
 obtain ⟨a, cap, rfl, h1, h2, h0, hs⟩ := h.seq.parts
 exact ⟨a, cap, rfl, h1, h2, h, h0⟩
theorem OwnsT.lt {B : Nat} {w : World} {v : Value} {xs : List Txt} (h : OwnsT B w v xs) : ∀ k, v.ownBlock = some k → B ≤ k ∧ k < w.heap.size := World.ownsRow.lt h
theorem OwnsT.alloc {B : Nat} {w : World} {v : Value} {xs : List Txt} (h : OwnsT B w v xs) (o : Obj) : OwnsT B (w.alloc o) v xs := World.ownsRow.alloc h o
theorem OwnsT.mono {B C : Nat} {w : World} {v : Value} {xs : List Txt} (h : OwnsT B w v xs) (hc : C ≤ B) : OwnsT C w v xs := by
 refine ⟨h.1, ?_⟩
 rcases h.2 with hn | ⟨g, cap, cur, hv, hb, hg⟩
 ·exact .inl hn
 ·exact .inr ⟨g, cap, cur, hv, by omega, hg⟩
theorem OwnsT.below {B N : Nat} {w w' : World} {v : Value} {xs : List Txt} (h : OwnsT B w v xs) (hb : Below N w w') (hN : w.heap.size ≤ N) : OwnsT B w' v xs := by
 refine ⟨h.1, ?_⟩
 rcases h.2 with hn | ⟨g, cap, cur, hv, hb', hg, hr⟩
 ·exact .inl hn
 ·have hlt : g < w.heap.size := (Array.getElem?_eq_some_iff.1 hg).1
  exact .inr ⟨g, cap, cur, hv, hb', (hb.block g (by omega)).trans hg, hr⟩
theorem OwnsT.one (w : World) (B : Nat) (x : Txt) (hB : B ≤ w.heap.size) : OwnsT B (w.alloc (.cells #[tv x] 9)) (.slice (some ⟨w.heap.size, 0, none⟩) 1 1) [x] :=
 World.ownsRow_lit w #[tv x] 1 hB (by unfold maxLen; omega) rfl
theorem SeqT.one (w : World) (x : Txt) : SeqT (w.alloc (.cells #[tv x] 9)) (.slice (some ⟨w.heap.size, 0, none⟩) 1 1) [x] :=
 (OwnsT.one w w.heap.size x (Nat.le_refl _)).seq
def MadeT (w : World) (xs : List Txt) (e : Ending) (w' : World) : Prop := ∃ v, e = .returned v ∧ OwnsT w.heap.size w' v xs ∧ Below w.heap.size w w'
theorem infoT : (Tryz.prog.info? 9).map (fun i => (i.zero, i.size, i.bytes)) = some (some (.string ByteArray.empty), 1, 16) := by kernel_rfl
theorem texts_oneCell (ys : List Txt) : ∀ u ∈ ys.map tv, u.oneCell' = true := by
 intro u hu
 obtain ⟨c, -, rfl⟩ := List.mem_map.1 hu
 rfl
theorem wpList_append_texts {w : World} {ops : Array Oper} {rest : List Oper} {o : Oper} {act : Act} {Q : Exit → Act → World → Prop} (hgd : o.guard = none) (s x : Operand)
  (ho : o.op = .call { callee := .builtin .append, args := #[s, x], argTypes := #[31, 31] }) (B : Nat) {v u : Value} {xs ys : List Txt}
  (hs : act.eval s = v) (hown : OwnsT B w v xs) (hx : act.eval x = u) (hseq : SeqT w u ys) (hlen : xs.length + ys.length ≤ 1073741824) (hbase : B ≤ w.heap.size)
  (h : ∀ v' w', OwnsT B w' v' (xs ++ ys) → w.grownBy w' v.ownBlock → (v'.ownBlock = v.ownBlock ∨ v'.ownBlock = some w.heap.size) → wpList Tryz.prog ops Q rest (act.put o.dst v') w') : wpList Tryz.prog ops Q (o :: rest) act w := by
 obtain ⟨i0, hi, hz0, hz1, hz2⟩ := info_parts infoT
 obtain ⟨a, cap, rfl, h1, h2, h0, h3⟩ := hseq
 cases a with
 | none =>
  obtain rfl := h0 rfl
  obtain rfl : ys = [] := List.eq_nil_of_length_eq_zero (by omega)
  refine wpList_append_own_none hgd s x 31 ho B 9 i0 1 Tryz.underlying31 hi v _ _ hs hown hx (h v w ?_ (World.grownBy.refl _ _) (.inl rfl))
  rw [List.append_nil]; exact hown
 | some ad =>
  refine wpList_append_own_at _ hgd s x 31 ho B 9 i0 (.string ByteArray.empty) 1 16 Tryz.underlying31 hi hz0 hz1 hz2 rfl (by decide) v _ _ hs hown ad ys.length cap (ys.map tv) hx (by simp) ?_ (texts_oneCell _) (by unfold maxLen; omega) (by omega) hbase ?_
  ·intro j u hu
   have hj : j < ys.length := by
    have := (List.getElem?_eq_some_iff.1 hu).1
    simpa using this
   obtain ⟨b, off, he, hc⟩ := h3 (by omega)
   cases he
   rw [getD_mapT ys j hj] at hu
   cases hu
   rw [Addr.add_lit]
   exact hc j hj
  ·intro v' w' hown' hg _ hat
   exact h v' w' (by unfold OwnsT; rw [List.length_append, List.map_append]; exact hown') hg hat
theorem SeqT.dims {w : World} {a : Option Addr} {n cap : Nat} {xs : List Txt} (h : SeqT w (.slice a n cap) xs) : xs.length = n ∧ n ≤ cap ∧ cap ≤ 9223372036854775807 := by
 obtain ⟨a', cap', hv, h1, h2, -, -⟩ := h
 simp only [Value.slice.injEq] at hv
 obtain ⟨rfl, rfl, rfl⟩ := hv
 exact ⟨rfl, h1, h2⟩
theorem OwnsT.cell {B : Nat} {w : World} {g n cap : Nat} {xs : List Txt} (h : OwnsT B w (.slice (some ⟨g, 0, none⟩) n cap) xs) (j : Nat) (hj : j < xs.length) : w.cell? ⟨g, j, none⟩ = some (tv (xs.getD j [])) := by
 have hn := h.seq.dims.1
 have h' : w.ownsRow B 9 1 (.slice (some ⟨g, 0, none⟩) n cap) n (xs.map tv) := by rw [← hn]; unfold OwnsT at h; rw [← hn] at h; exact h
 rw [World.ownsRow.cellAt h' j (by omega), getD_mapT xs j hj]
theorem OwnsT.at {B : Nat} {w : World} {v : Value} {xs : List Txt} (h : OwnsT B w v xs) (n : Nat) (hn : xs.length = n) : ∃ a cap, v = .slice a n cap ∧ (n : Int) ≤ cap ∧ (cap : Int) ≤ 9223372036854775807 ∧ OwnsT B w (.slice a n cap) xs := by
 subst hn
 obtain ⟨a, cap, rfl, h1, h2, h3, -⟩ := h.parts
 have hm : maxLen = 9223372036854775807 := rfl
 exact ⟨a, cap, rfl, by omega, by omega, h3⟩
theorem OwnsT.free {B : Nat} {w : World} {g n cap : Nat} {xs : List Txt} (h : OwnsT B w (.slice (some ⟨g, 0, none⟩) n cap) xs) (j : Nat) : w.frozen? ⟨g, j, none⟩ = false := by
 have hn := h.seq.dims.1
 have h' : w.ownsRow B 9 1 (.slice (some ⟨g, 0, none⟩) n cap) n (xs.map tv) := by rw [← hn]; unfold OwnsT at h; rw [← hn] at h; exact h
 exact World.ownsRow.frozenAt h' j
theorem OwnsT.block {B : Nat} {w : World} {g n cap : Nat} {xs : List Txt} (h : OwnsT B w (.slice (some ⟨g, 0, none⟩) n cap) xs) : B ≤ g ∧ g < w.heap.size := h.lt g rfl

theorem index_run (s : Txt) (k : Nat) (hk : k < s.length) (w : World) : (Instr.index 9 (.string (bt s)) (.int .i64 (k : Int))).run Tryz.prog w = .ok (.int .u8 ((s.getD k 0).toNat : Int)) w := by
 rw [run_index_string w _ _ _ _ Tryz.underlying9]
 have hs := bt_size s
 rw [dif_pos (by omega)]
 congr 2
 show (((bt s).data[((k : Int)).toNat]'(by simp [bt]; omega)).toNat : Int) = _
 simp [bt, List.getD, List.getElem?_eq_getElem hk]
theorem toList_bt (s : Txt) : (bt s).toList = s := by
 rw [ByteArray.toList_eq]
 rfl
theorem text_eq (s t : Txt) : ((bt s).toList == (bt t).toList) = decide (s = t) := by rw [toList_bt, toList_bt]; by_cases h : s = t <;> simp [h]
theorem text_lt (s t : Txt) : Op.bytesLess (bt s).toList (bt t).toList = decide (s < t) := by rw [toList_bt, toList_bt]; exact bytesLess_eq s t

end Go.Proofs.YtpnpomocjkmncaaGreat
namespace Go.Proofs.YtpnpomocjkmncaaGreat
open Go.RowKit Plain Go.ChangeShapes Go.WideShapes
set_option linter.unusedVariables false

def IsTexts (w : World) (v : Value) : Prop := ∃ xs : List Txt, SeqT w v xs
set_option maxRecDepth 100000 in
theorem texts_of_trod {H : Type} {enc : TypeId × Value → H} {W : World} {r : Reach} {b : Nat} {v : Value} {d : DataW H} {p : List MemPlace} (hv : Value.okWide Tryz.prog W r b 31 v) (h : DataW.Trod enc Tryz.prog W 0 (fun _ => true) true 31 v d p) : IsTexts W v := by
 obtain ⟨a0, n0, c0, rfl⟩ := okWide_slice Tryz.underlying31 hv
 obtain ⟨fuel, hf⟩ := h
 rcases Go.Deep.open_strs Tryz.underlying31 Tryz.underlying9 (by kernel_rfl) hf with ⟨hcs, -⟩ | ⟨a, len, cap, m, Sx, hcs, -, hl, hm, hmm, -, hi⟩
 ·simp [Value.cells] at hcs
  obtain ⟨rfl, rfl, rfl⟩ := hcs
  exact ⟨[], SeqT.nil W⟩
 ·simp [Value.cells] at hcs
  obtain ⟨rfl, rfl, rfl⟩ := hcs
  simp only [↓reduceIte] at hmm
  subst hmm
  have hlen : ((List.range n0).map fun i => tx (Sx i)).length = n0 := by simp
  refine ⟨(List.range n0).map fun i => tx (Sx i), some a, m, by rw [hlen], by rw [hlen]; exact hl, hm, (by simp), fun hp => ?_⟩
  rw [hlen] at hp ⊢
  have each : ∀ j, j < n0 → W.cell? (a.add j) = some (tv (((List.range n0).map fun i => tx (Sx i)).getD j [])) := by
   intro j hj
   rw [(hi j (by omega)).1]
   simp [List.getD, hj, tv, bt_tx]
  obtain ⟨b, o, spot⟩ := a
  have hspot : spot = none := by
   simpa [Addr.add] using World.cell?_spot (each 0 hp)
  subst hspot
  refine ⟨b, o, rfl, fun j hj => ?_⟩
  have := each j hj
  simp only [add_plain] at this
  exact this
end Go.Proofs.YtpnpomocjkmncaaGreat
namespace Go.Proofs.YtpnpomocjkmncaaGreat
open Go.RowKit Plain
set_option linter.unusedVariables false

theorem beg_false {s p : Txt} (k : Nat) (hk : k < p.length) (h : s.getD k 0 ≠ p.getD k 0) (hs : k < s.length) : beg s p = false := by
 cases e : beg s p with
 | false => rfl
 | true =>
  obtain ⟨t, ht⟩ := beg_iff.1 e
  exfalso
  apply h
  subst ht
  simp [List.getD, List.getElem?_append_left hk]
theorem beg_true {s p : Txt} (hl : p.length ≤ s.length) (h : ∀ k, k < p.length → s.getD k 0 = p.getD k 0) : beg s p = true := by
 refine beg_iff.2 ((List.prefix_iff_eq_take).2 ?_)
 refine List.ext_getElem (by rw [List.length_take]; omega) fun i h1 h2 => ?_
 have := h i h1
 rw [List.getElem_take]
 simpa [List.getD, List.getElem?_eq_getElem h1, List.getElem?_eq_getElem (show i < s.length by omega)] using this.symm
theorem beg_long {s p : Txt} (hl : s.length < p.length) : beg s p = false := by
 cases e : beg s p with
 | false => rfl
 | true =>
  have := (beg_iff.1 e).length_le
  omega
theorem u8_ne {a b : UInt8} (h : a ≠ b) : ((a.toNat : Int) != (b.toNat : Int)) = true := bne_iff_ne.2 fun e => h (UInt8.toNat_inj.1 (by omega))
theorem u8_lt (a : UInt8) : a.toNat < 256 := UInt8.toNat_lt a

set_option maxRecDepth 100000 in
set_option maxHeartbeats 2000000 in
theorem rbegins_any (s p : Txt) (hs : s.length ≤ 1000000) (hp : p.length ≤ 1000000) (w : World) :
  Calls Tryz.prog 101 #[.string (bt s), .string (bt p)] w fun e w' => e = .returned (.bool (beg s p)) ∧ ∃ n, w' = w.drewN n := by
 have z1 := bt_size s
 have z2 := bt_size p
 by_cases hl : s.length < p.length
 ·rw [beg_long hl]
  generalize bt s = S at *
  generalize bt p = Q at *
  go_enter Tryz.func101, Tryz.ntmps101
  go_wp2_with fail
  go_ret
  exact ⟨rfl, 0, rfl⟩
 ·have HF := Lib.hid (fun k hk h hs => beg_false (s := s) (p := p) k hk h hs)
  have HT := Lib.hid (beg_true (s := s) (p := p) (by omega))
  generalize beg s p = r at *
  have I1 := Lib.hid (index_run s)
  have I2 := Lib.hid (index_run p)
  generalize bt s = S at *
  generalize bt p = Q at *
  go_enter Tryz.func101, Tryz.ntmps101
  go_wp2_with fail
  go_loopw [5] (fun i wr => ∃ k : Nat, k ≤ p.length ∧ i = .int .i64 k ∧ (∀ j, j < k → s.getD j 0 = p.getD j 0) ∧ ∃ n, wr = w.drewN n) (fun i _ => p.length - (intOf i).toNat)
  case atStart => exact ⟨0, Nat.zero_le _, rfl, fun j hj => absurd hj (by omega), 0, rfl⟩
  case round =>
   obtain ⟨k, hk, rfl, hall, n, rfl⟩ := hrel
   have HA := Lib.hid hall
   clear hall
   by_cases hlt : k < p.length
   ·have i1 := I1.out k (by omega)
    have i2 := I2.out k hlt
    by_cases he : s.getD k 0 = p.getD k 0
    ·have HA2 : Hid (∀ j, j < k + 1 → s.getD j 0 = p.getD j 0) := Lib.hid (fun j hj => by
      by_cases h : j < k
      ·exact HA.out j h
      ·obtain rfl : j = k := by omega
       exact he)
     rw [he] at i1
     clear he
     have hx := u8_lt (p.getD k 0)
     generalize (p.getD k 0).toNat = x at *
     go_wp2_with fail
     go_quiet (fail)
     go_wp2_with fail
     go_roundw
     case rel => exact ⟨k + 1, by omega, by go_num, HA2.out, _, rfl⟩
     case measure => simp [intOf]; omega
    ·have hb := u8_ne he
     obtain rfl : r = false := HF.out k hlt he (by omega)
     clear he
     generalize (p.getD k 0).toNat = x at *
     generalize (s.getD k 0).toNat = y at *
     go_wp2_with fail
     go_quiet (fail)
     go_wp2_with fail
     go_ret
     exact ⟨rfl, _, World.drewN_drewN _ _ _⟩
   ·obtain rfl : k = p.length := by omega
    obtain rfl : r = true := HT.out HA.out
    go_wp2_with fail
    go_ret
    exact ⟨rfl, _, rfl⟩

theorem ok_of {c : UInt8} (h : c.toNat = 47 ∨ (48 ≤ c.toNat ∧ c.toNat ≤ 57) ∨ (97 ≤ c.toNat ∧ c.toNat ≤ 122)) : okByte c = true := by
 unfold okByte
 simp only [Bool.or_eq_true, Bool.and_eq_true, beq_iff_eq, decide_eq_true_eq, UInt8.le_iff_toNat_le]
 rcases h with h | h | h
 ·exact .inl (.inl (UInt8.toNat_inj.1 h))
 ·exact .inl (.inr h)
 ·exact .inr h
theorem ok_not {c : UInt8} (h : ¬ (c.toNat = 47 ∨ (48 ≤ c.toNat ∧ c.toNat ≤ 57) ∨ (97 ≤ c.toNat ∧ c.toNat ≤ 122))) : okByte c = false := by
 cases e : okByte c with
 | false => rfl
 | true =>
  exfalso
  apply h
  unfold okByte at e
  simp only [Bool.or_eq_true, Bool.and_eq_true, beq_iff_eq, decide_eq_true_eq, UInt8.le_iff_toNat_le] at e
  rcases e with (e | e) | e
  ·subst e; exact .inl rfl
  ·exact .inr (.inl e)
  ·exact .inr (.inr e)
theorem prefix_true {s : Txt} (hl : s.length ≤ 16) (h : ∀ k, k < s.length → okByte (s.getD k 0) = true) : prefixB s = true := by
 unfold prefixB
 rw [Bool.and_eq_true, List.all_eq_true]
 refine ⟨fun c hc => ?_, decide_eq_true hl⟩
 obtain ⟨k, hk, rfl⟩ := List.getElem_of_mem hc
 have := h k hk
 simpa [List.getD, List.getElem?_eq_getElem hk] using this
theorem prefix_false {s : Txt} (k : Nat) (hk : k < s.length) (h : okByte (s.getD k 0) = false) : prefixB s = false := by
 cases e : prefixB s with
 | false => rfl
 | true =>
  unfold prefixB at e
  rw [Bool.and_eq_true, List.all_eq_true] at e
  have := e.1 _ (List.getElem_mem hk)
  simp [List.getD, List.getElem?_eq_getElem hk, this] at h
theorem prefix_long {s : Txt} (hl : ¬ s.length ≤ 16) : prefixB s = false := by unfold prefixB; rw [decide_eq_false hl, Bool.and_false]

set_option maxRecDepth 100000 in
set_option maxHeartbeats 4000000 in
theorem rprefix_any (s : Txt) (hs : s.length ≤ 9223372036854775807) (w : World) :
  Calls Tryz.prog 88 #[.string (bt s)] w fun e w' => e = .returned (.bool (prefixB s)) ∧ w = w' := by
 have z1 := bt_size s
 have HF := Lib.hid (fun k hk h => prefix_false (s := s) k hk h)
 have HT := Lib.hid (prefix_true (s := s))
 have HL := Lib.hid (prefix_long (s := s))
 have I1 := Lib.hid (index_run s)
 generalize prefixB s = r at *
 generalize bt s = S at *
 go_enter Tryz.func88, Tryz.ntmps88
 go_wp2_with fail
 go_loop [3, 4] (fun i _ => ∃ k : Nat, k ≤ s.length ∧ i = .int .i64 k ∧ ∀ j, j < k → okByte (s.getD j 0) = true) (fun i _ => s.length - (intOf i).toNat)
 case atStart => exact ⟨0, Nat.zero_le _, rfl, fun j hj => absurd hj (by omega)⟩
 case round =>
  obtain ⟨k, hk, rfl, hall⟩ := hrel
  have HA := Lib.hid hall
  clear hall
  by_cases hlt : k < s.length
  ·have i1 := I1.out k hlt
   by_cases he : (s.getD k 0).toNat = 47 ∨ (48 ≤ (s.getD k 0).toNat ∧ (s.getD k 0).toNat ≤ 57) ∨ (97 ≤ (s.getD k 0).toNat ∧ (s.getD k 0).toNat ≤ 122)
   ·have HA2 : Hid (∀ j, j < k + 1 → okByte (s.getD j 0) = true) := Lib.hid (fun j hj => by
      by_cases h : j < k
      ·exact HA.out j h
      ·obtain rfl : j = k := by omega
       exact ok_of he)
    have hx := u8_lt (s.getD k 0)
    generalize (s.getD k 0).toNat = x at *
    rcases he with he | ⟨h1, h2⟩ | ⟨h1, h2⟩
    ·subst he
     go_wp2_with fail
     go_round
     case rel => exact ⟨k + 1, by omega, by go_num, HA2.out⟩
     case measure => simp [intOf]; omega
    ·have b1 : ((x : Int) == 47) = false := by simp; omega
     go_wp2_with fail
     go_round
     case rel => exact ⟨k + 1, by omega, by go_num, HA2.out⟩
     case measure => simp [intOf]; omega
    ·have b1 : ((x : Int) == 47) = false := by simp; omega
     have b2 : ¬ (x : Int) ≤ 57 := by omega
     have b3 : (48 : Int) ≤ x := by omega
     have b4 : (97 : Int) ≤ x := by omega
     have b5 : (x : Int) ≤ 122 := by omega
     clear h1 h2
     go_wp2_with fail
     exact ⟨⟨k + 1, by omega, by go_num, HA2.out⟩, by simp [intOf]; omega⟩
   ·obtain rfl : r = false := HF.out k hlt (ok_not he)
    have hx := u8_lt (s.getD k 0)
    generalize (s.getD k 0).toNat = x at *
    have b1 : ((x : Int) == 47) = false := by simp; omega
    by_cases h1 : x < 48
    ·clear he
     have b2 : ¬ (48 : Int) ≤ x := by omega
     have b3 : ¬ (97 : Int) ≤ x := by omega
     go_wp2_with fail
     go_ret
     exact ⟨rfl, rfl⟩
    ·by_cases h2 : x < 97
     ·have b2 : (48 : Int) ≤ x := by omega
      have b3 : ¬ (x : Int) ≤ 57 := by omega
      have b4 : ¬ (97 : Int) ≤ x := by omega
      clear he
      go_wp2_with fail
      go_ret
      exact ⟨rfl, rfl⟩
     ·have b2 : (48 : Int) ≤ x := by omega
      have b3 : ¬ (x : Int) ≤ 57 := by omega
      have b4 : (97 : Int) ≤ x := by omega
      have b5 : ¬ (x : Int) ≤ 122 := by omega
      clear he
      go_wp2_with fail
      go_ret
      exact ⟨rfl, rfl⟩
  ·obtain rfl : k = s.length := by omega
   by_cases hl : s.length ≤ 16
   ·obtain rfl : r = true := HT.out hl HA.out
    have hd : decide ((s.length : Int) ≤ 16) = true := decide_eq_true (by omega)
    go_wp2_with fail
    go_ret
    exact ⟨rfl, rfl⟩
   ·obtain rfl : r = false := HL.out hl
    have hd : decide ((s.length : Int) ≤ 16) = false := decide_eq_false (by omega)
    go_wp2_with fail
    go_ret
    exact ⟨rfl, rfl⟩

set_option maxRecDepth 100000 in
set_option maxHeartbeats 1000000 in
theorem rkey_any (s : Txt) (hs : s.length ≤ 9223372036854775807) (w : World) :
  Calls Tryz.prog 87 #[.string (bt s)] w fun e w' => e = .returned (.bool (keyB s)) ∧ w = w' := by
 have z1 := bt_size s
 have K := rprefix_any s hs w
 have hk : keyB s = (decide (0 < s.length) && prefixB s) := rfl
 generalize prefixB s = r at *
 generalize bt s = S at *
 rw [hk]
 clear hk
 by_cases h : 0 < s.length
 ·rw [decide_eq_true h, Bool.true_and]
  have h' : (0 : Int) < s.length := by omega
  go_enter Tryz.func87, Tryz.ntmps87
  go_wp2_with fail
  refine K.mono ?_
  rintro e w' ⟨rfl, rfl⟩
  go_wp2_with fail
  go_ret
  exact ⟨rfl, rfl⟩
 ·rw [decide_eq_false h, Bool.false_and]
  have h' : ¬ (0 : Int) < s.length := by omega
  go_enter Tryz.func87, Tryz.ntmps87
  go_wp2_with fail
  go_ret
  exact ⟨rfl, rfl⟩

def FitT (xs : List Txt) : Prop := ∀ t ∈ xs, t.length ≤ 1000000
theorem FitT.at {xs : List Txt} (h : FitT xs) (k : Nat) (hk : k < xs.length) : (xs.getD k []).length ≤ 1000000 := by
 have := h _ (List.getElem_mem hk)
 simpa [List.getD, List.getElem?_eq_getElem hk] using this
theorem mem_getD {xs : List Txt} {k : Nat} (hk : k < xs.length) : xs.getD k [] ∈ xs := by
 have e : xs.getD k [] = xs[k] := by simp [List.getD, List.getElem?_eq_getElem hk]
 rw [e]
 exact List.getElem_mem hk
theorem covers_true {xs : List Txt} {s : Txt} (k : Nat) (hk : k < xs.length) (h : beg s (xs.getD k []) = true) : covers xs s = true := covers_iff.2 ⟨_, mem_getD hk, h⟩
theorem covers_false {xs : List Txt} {s : Txt} (h : ∀ k, k < xs.length → beg s (xs.getD k []) = false) : covers xs s = false := by
 cases e : covers xs s with
 | false => rfl
 | true =>
  obtain ⟨p, hp, hb⟩ := covers_iff.1 e
  obtain ⟨k, hk, rfl⟩ := List.getElem_of_mem hp
  have := h k hk
  simp [List.getD, List.getElem?_eq_getElem hk, hb] at this

set_option maxRecDepth 100000 in
set_option maxHeartbeats 4000000 in
theorem rcovers_any {v : Value} {xs : List Txt} {w : World} (hv : SeqT w v xs) (hx : FitT xs) (hn : xs.length ≤ 1000000) (s : Txt) (hs : s.length ≤ 1000000) :
  Calls Tryz.prog 58 #[v, .string (bt s)] w fun e w' => e = .returned (.bool (covers xs s)) ∧ ∃ n, w' = w.drewN n := by
 obtain ⟨a, cap, rfl, g1, g2, g0, h⟩ := hv.parts
 have HS := Lib.hid h
 have HT := Lib.hid (fun k hk h => covers_true (xs := xs) (s := s) k hk h)
 have HF := Lib.hid (covers_false (xs := xs) (s := s))
 have KB := Lib.hid (fun k (hk : k < xs.length) (u : World) => rbegins_any s (xs.getD k []) hs (hx.at k hk) u)
 have hm : maxLen = 9223372036854775807 := rfl
 rw [hm] at g2
 clear hv h g0 hm hx
 generalize covers xs s = r at *
 generalize bt s = S at *
 go_enter Tryz.func58, Tryz.ntmps58
 go_wp2_with fail
 go_loopw [5] (fun i wr => ∃ k : Nat, k ≤ xs.length ∧ i = .int .i64 k ∧ (∀ j, j < k → beg s (xs.getD j []) = false) ∧ ∃ n, wr = w.drewN n) (fun i _ => xs.length - (intOf i).toNat)
 case atStart => exact ⟨0, Nat.zero_le _, rfl, fun j hj => absurd hj (by omega), 0, rfl⟩
 case round =>
  obtain ⟨k, hk, rfl, hall, n, rfl⟩ := hrel
  have HA := Lib.hid hall
  clear hall
  by_cases hlt : k < xs.length
  ·obtain ⟨b, o, c, hv, -, -, -, hc⟩ := HS.out.spot (by omega)
   simp only [Value.slice.injEq] at hv
   obtain ⟨rfl, -, rfl⟩ := hv
   have c1 := hc k hlt
   unfold tv at c1
   have K := KB.out k hlt (w.drewN n)
   clear hc
   cases he : beg s (xs.getD k []) with
   | true =>
    rw [he] at K
    obtain rfl : r = true := HT.out k hlt he
    clear he
    generalize bt (xs.getD k []) = X at *
    go_wp2_with fail
    refine K.mono ?_
    rintro e w' ⟨rfl, m, rfl⟩
    go_wp2_with fail
    go_ret
    exact ⟨rfl, _, rfl⟩
   | false =>
    rw [he] at K
    have HA2 : Hid (∀ j, j < k + 1 → beg s (xs.getD j []) = false) := Lib.hid (fun j hj => by
      by_cases h : j < k
      ·exact HA.out j h
      ·obtain rfl : j = k := by omega
       exact he)
    clear he
    generalize bt (xs.getD k []) = X at *
    go_wp2_with fail
    refine K.mono ?_
    rintro e w' ⟨rfl, m, rfl⟩
    go_wp2_with fail
    go_roundw
    case rel => exact ⟨k + 1, by omega, by go_num, HA2.out, _, rfl⟩
    case measure => simp [intOf]; omega
  ·obtain rfl : k = xs.length := by omega
   obtain rfl : r = false := HF.out HA.out
   go_wp2_with fail
   go_ret
   exact ⟨rfl, _, rfl⟩
end Go.Proofs.YtpnpomocjkmncaaGreat
namespace Go.Proofs.YtpnpomocjkmncaaGreat
open Go.RowKit Plain
set_option linter.unusedVariables false

theorem mem_at {l : List Txt} {t : Txt} (h : t ∈ l) : ∃ j, j < l.length ∧ l.getD j [] = t := by
 obtain ⟨j, hj, rfl⟩ := List.getElem_of_mem h
 exact ⟨j, hj, by simp [List.getD, List.getElem?_eq_getElem hj]⟩
end Go.Proofs.YtpnpomocjkmncaaGreat
namespace Go.Proofs.YtpnpomocjkmncaaGreat
open Go.RowKit Plain
set_option linter.unusedVariables false

end Go.Proofs.YtpnpomocjkmncaaGreat
