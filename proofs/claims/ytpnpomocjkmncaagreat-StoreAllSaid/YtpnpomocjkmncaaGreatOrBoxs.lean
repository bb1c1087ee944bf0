/- What is waiting, as it lies in memory: the list, what was heard, the heap, the map; what may change, and what stands beside it. The program's own wait. (Written by gen-wt.py.) -/
import Derived.Test.YtpnpomocjkmncaaGreatOrUps
import Derived.Test.YtpnpomocjkmncaaGreatOrMap
import Derived.Test.YtpnpomocjkmncaaGreatStore
import Derived.Test.YtpnpomocjkmncaaGreatOrWait
import Derived.Test.YtpnpomocjkmncaaGreatRefTxOC
import Derived.Deep.DeepCutAuto
namespace Go.Proofs.YtpnpomocjkmncaaGreat
open Go.RowKit Plain
set_option linter.unusedVariables false

def nums (H : List Nat) : List Int := H.map fun (n : Nat) => (n : Int)
def rowOf (Bh : Int → Int → List Nat) (d : PDot) : List Int := if d.pos = 0 then nums (Bh d.node d.seq) else []
structure FTo (F : Nat → Prop) (w : World) (F' : Nat → Prop) (w' : World) : Prop where
 but : ButF F w w'
 new : ∀ k, F' k → F k ∨ w.heap.size ≤ k
theorem FTo.refl (F : Nat → Prop) (w : World) : FTo F w F w := ⟨ButF.refl _ _, fun _ h => .inl h⟩
theorem FTo.trans {F F' F'' : Nat → Prop} {a b c : World} (h : FTo F a F' b) (k : FTo F' b F'' c) : FTo F a F'' c :=
 ⟨h.but.trans k.but fun x hx g => (h.new x g).resolve_right (by omega), fun x g => (k.new x g).elim (h.new x) fun e => .inr (Nat.le_trans h.but.size e)⟩
theorem FTo.of {F : Nat → Prop} {w w' : World} (h : Below w.heap.size w w') : FTo F w F w' := ⟨ButF.of h, fun _ g => .inl g⟩
structure WtAt (F : Nat → Prop) (B : Nat) (w : World) (g : Nat) (l : List PTxn) (v : Ints) (H : List Nat) (Bh : Int → Int → List Nat) (lv hv rv : Value) (m : Nat) (V : PDot → Value) (hs : List Int) : Prop where
 hp : HpAt w B g lv hv (.map (some m)) rv hs
 heap : IsHeap hs
 perm : hs.Perm (nums H)
 list : Sq LTxn (fun b => b < B) w lv l
 vec : OwnsI B w hv v
 map : MapAt w m V
 rows : ∀ d, OwnsI B w (V d) (rowOf Bh d)
 apart : ∀ d e k, (V d).ownBlock = some k → (V e).ownBlock = some k → d = e
 apart2 : ∀ d k, (V d).ownBlock = some k → rv.ownBlock ≠ some k
 Fg : F g
 Fm : F m
 Fr : ∀ k, rv.ownBlock = some k → F k
 FV : ∀ d k, (V d).ownBlock = some k → F k
 Flow : ∀ k, F k → B ≤ k ∧ k < w.heap.size
 size : B ≤ w.heap.size
 vecF : ∀ k, hv.ownBlock = some k → ¬ F k
def Wt (F : Nat → Prop) (B : Nat) (w : World) (g : Nat) (l : List PTxn) (v : Ints) (H : List Nat) (Bh : Int → Int → List Nat) : Prop := ∃ lv hv rv m V hs, WtAt F B w g l v H Bh lv hv rv m V hs
theorem WtAt.is {F : Nat → Prop} {B : Nat} {w : World} {g : Nat} {l : List PTxn} {v : Ints} {H : List Nat} {Bh : Int → Int → List Nat} {lv hv rv : Value} {m : Nat} {V : PDot → Value} {hs : List Int} (h : WtAt F B w g l v H Bh lv hv rv m V hs) : Wt F B w g l v H Bh := ⟨_, _, _, _, _, _, h⟩
section
variable {F : Nat → Prop} {B : Nat} {w : World} {g : Nat} {l : List PTxn} {v : Ints} {H : List Nat} {Bh : Int → Int → List Nat} {lv hv rv : Value} {m : Nat} {V : PDot → Value} {hs : List Int}
theorem row_not_map {B : Nat} {w : World} {u : Value} {xs : List Int} {m : Nat} {V : PDot → Value} (h : OwnsI B w u xs) (hm : MapAt w m V) : u.ownBlock ≠ some m := by
 intro e
 obtain ⟨c, fz, hk⟩ := Lib.ownsRow_kind h m e
 obtain ⟨es, clock, hb, -⟩ := hm
 rw [hb] at hk
 cases hk
theorem row_not_box {B : Nat} {w : World} {u : Value} {xs : List Int} {g : Nat} {lv hv rv mv : Value} (h : OwnsI B w u xs) (hm : w.heap[g]? = some (wbox lv hv rv mv)) : u.ownBlock ≠ some g := by
 intro e
 obtain ⟨c, fz, hk⟩ := Lib.ownsRow_kind h g e
 rw [hm] at hk
 simp only [wbox, Option.some.injEq, Obj.cells.injEq] at hk
 exact wait_ne_int hk.2.1
theorem WtAt.mg (h : WtAt F B w g l v H Bh lv hv rv m V hs) : m ≠ g := by
 rintro rfl
 obtain ⟨es, clock, hb, -⟩ := h.map
 rw [h.hp.box] at hb
 cases hb
theorem WtAt.below {w' : World} (h : WtAt F B w g l v H Bh lv hv rv m V hs) (hb : Below w.heap.size w w') : WtAt F B w' g l v H Bh lv hv rv m V hs where
 hp := h.hp.below hb
 heap := h.heap
 perm := h.perm
 list := h.list.agree fun b hl => hb.block b (Nat.lt_of_lt_of_le hl h.size)
 vec := h.vec.below hb (Nat.le_refl _)
 vecF := h.vecF
 map := h.map.below hb
 rows := fun d => (h.rows d).below hb (Nat.le_refl _)
 apart := h.apart
 apart2 := h.apart2
 Fg := h.Fg
 Fm := h.Fm
 Fr := h.Fr
 FV := h.FV
 Flow := fun k hk => ⟨(h.Flow k hk).1, Nat.lt_of_lt_of_le (h.Flow k hk).2 hb.size⟩
 size := Nat.le_trans h.size hb.size
theorem WtAt.vecS (h : WtAt F B w g l v H Bh lv hv rv m V hs) : SeqE LInt w hv v := seq_ofI h.vec.seq
theorem WtAt.heaped {w' : World} {rv' : Value} {hs' : List Int} {H' : List Nat} (h : WtAt F B w g l v H Bh lv hv rv m V hs) (h1 : HpAt w' B g lv hv (.map (some m)) rv' hs') (h2 : IsHeap hs') (h3 : hs'.Perm (nums H')) (ht : HpTo g w rv w' rv') :
  WtAt (fun k => F k ∨ rv'.ownBlock = some k) B w' g l v H' Bh lv hv rv' m V hs' ∧ FTo F w (fun k => F k ∨ rv'.ownBlock = some k) w' := by
 have hs := ht.but.size
 have hbF : ButF F w w' := ht.but.mono fun k _ e => e.elim (fun e => e ▸ h.Fg) (h.Fr k)
 have hlt1 := h1.row.lt
 refine ⟨⟨h1, h2, h3, h.list.agree fun b hl => hbF.block b (Nat.lt_of_lt_of_le hl h.size) fun f => by have := (h.Flow b f).1; omega, h.vec.keep fun k hk => hbF.block k (h.vec.lt k hk).2 (h.vecF k hk), h.map.keep (ht.but.block m h.map.lt ?_), fun d => (h.rows d).keep fun k hk => ht.but.block k ((h.rows d).lt k hk).2 ?_, h.apart, fun d k hk e => ?_, .inl h.Fg, .inl h.Fm, fun k e => .inr e, fun d k e => .inl (h.FV d k e), fun k f => ?_, Nat.le_trans h.size hs, fun k hk f => f.elim (h.vecF k hk) fun e => (ht.own k e).elim (fun e => h.vecF k hk (h.Fr k e)) fun e => by have := (h.vec.lt k hk).2; omega⟩, ⟨hbF, fun k f => f.elim .inl fun e => (ht.own k e).elim (fun e => .inl (h.Fr k e)) .inr⟩⟩
 ·rintro (e | e)
  ·exact h.mg e
  ·exact row_not_map h.hp.row h.map e
 ·rintro (e | e)
  ·exact row_not_box (h.rows d) h.hp.box (by rw [hk, e])
  ·exact h.apart2 d k hk e
 ·rcases ht.own k e with e | e
  ·exact h.apart2 d k hk e
  ·have := ((h.rows d).lt k hk).2; omega
 ·rcases f with f | f
  ·exact ⟨(h.Flow k f).1, Nat.lt_of_lt_of_le (h.Flow k f).2 hs⟩
  ·exact hlt1 k f
theorem nums_cons {H : List Nat} {p : Nat} {ys : List Int} (h : ys.Perm ((p : Int) :: hs)) (hp : hs.Perm (nums H)) : ys.Perm (nums (p :: H)) := h.trans (hp.cons _)
theorem WtAt.laid {u1 u2 u3 w' : World} {d : PDot} {v' : Value} {p : Nat} (h : WtAt F B w g l v H Bh lv hv rv m V hs) (hb : Below w.heap.size w u1) (h12 : ButF (fun k => k = m) u1 u2) (ho : OwnsI B u3 v' (rowOf Bh d ++ [(p : Int)])) (hg : u2.grownBy u3 (V d).ownBlock)
  (hat : v'.ownBlock = (V d).ownBlock ∨ v'.ownBlock = some u2.heap.size) (h34 : ButF (fun k => k = m) u3 w') (hm : MapAt w' m (vset V d v')) (hd : d.pos = 0) :
  WtAt (fun k => F k ∨ v'.ownBlock = some k) B w' g l v H (oLay Bh d.node d.seq p) lv hv rv m (vset V d v') hs ∧ FTo F w (fun k => F k ∨ v'.ownBlock = some k) w' ∧ ∀ k, k < w.heap.size → k ≠ m → (V d).ownBlock ≠ some k → w'.heap[k]? = w.heap[k]? := by
 have s1 := hb.size
 have s2 := h12.size
 have s3 := hg.size
 have s4 := h34.size
 have hmlt := h.map.lt
 have hother : ∀ k, k < w.heap.size → k ≠ m → (V d).ownBlock ≠ some k → w'.heap[k]? = w.heap[k]? := fun k hk h1 h2 =>
  (h34.block k (by omega) h1).trans ((hg.block k (by omega) fun e => h2 e.symm).trans ((h12.block k (by omega) h1).trans (hb.block k hk)))
 have hbF : ButF F w w' := ⟨h34.os.trans (hg.os.trans (h12.os.trans hb.os)), h34.tape.trans (hg.tape.trans (h12.tape.trans hb.tape)), h34.output.trans (hg.output.trans (h12.output.trans hb.output)), by omega, fun k hk hn => hother k hk (fun e => hn (e ▸ h.Fm)) fun e => hn (h.FV d k e)⟩
 have hrow : rowOf (oLay Bh d.node d.seq p) d = rowOf Bh d ++ [(p : Int)] := by
  unfold rowOf
  rw [if_pos hd, if_pos hd, oLay_at]
  unfold nums
  rw [List.map_append]
  rfl
 have hrow2 : ∀ e, e ≠ d → rowOf (oLay Bh d.node d.seq p) e = rowOf Bh e := fun e he => by
  unfold rowOf
  by_cases c : e.pos = 0
  ·rw [if_pos c, if_pos c, oLay_off fun x => he (pdot_ext x.1 x.2 (c.trans hd.symm))]
  ·rw [if_neg c, if_neg c]
 have hnew : ∀ k, v'.ownBlock = some k → (V d).ownBlock = some k ∨ w.heap.size ≤ k := fun k e => hat.elim (fun x => .inl (x ▸ e)) fun x => by rw [x] at e; cases e; exact .inr (by omega)
 have hvd : vset V d v' d = v' := by unfold vset; rw [if_pos rfl]
 have hve : ∀ e, e ≠ d → vset V d v' e = V e := fun e he => by unfold vset; rw [if_neg he]
 have hgb : w'.heap[g]? = w.heap[g]? := hother g h.hp.lt (fun e => h.mg e.symm) (row_not_box (h.rows d) h.hp.box)
 have holt := ho.lt
 have hvm : v'.ownBlock ≠ some m := fun e => (hnew m e).elim (row_not_map (h.rows d) h.map) fun x => by omega
 refine ⟨⟨⟨hgb.trans h.hp.box, h.hp.row.keep fun k hk => hother k (h.hp.row.lt k hk).2 (fun e => row_not_map h.hp.row h.map (by rw [hk, e])) fun e => h.apart2 d k e hk, h.hp.low⟩, h.heap, h.perm, h.list.agree fun b hl => hbF.block b (Nat.lt_of_lt_of_le hl h.size) fun f => by have := (h.Flow b f).1; omega, h.vec.keep fun k hk => hbF.block k (h.vec.lt k hk).2 (h.vecF k hk), hm, fun e => ?_, fun e f k he hf => ?_, fun e k he hr => ?_, .inl h.Fg, .inl h.Fm, fun k e => .inl (h.Fr k e), fun e k he => ?_, fun k f => ?_, Nat.le_trans h.size hbF.size, fun k hk f => f.elim (h.vecF k hk) fun e => (hnew k e).elim (fun e => h.vecF k hk (h.FV d k e)) fun e => by have := (h.vec.lt k hk).2; omega⟩, ⟨hbF, fun k f => f.elim .inl fun e => (hnew k e).elim (fun e => .inl (h.FV d k e)) .inr⟩, hother⟩
 ·by_cases c : e = d
  ·subst c
   rw [hvd, hrow]
   exact ho.keep fun k hk => h34.block k (holt k hk).2 fun x => hvm (by rw [hk, x])
  ·rw [hve e c, hrow2 e c]
   exact (h.rows e).keep fun k hk => hother k ((h.rows e).lt k hk).2 (fun x => row_not_map (h.rows e) h.map (by rw [hk, x])) fun x => c (h.apart e d k hk x)
 ·by_cases c : e = d
  ·by_cases c2 : f = d
   ·rw [c, c2]
   ·rw [c, hvd] at he
    rw [hve f c2] at hf
    rcases hnew k he with x | x
    ·exact absurd (h.apart f d k hf x) c2
    ·have := ((h.rows f).lt k hf).2; omega
  ·rw [hve e c] at he
   by_cases c2 : f = d
   ·rw [c2, hvd] at hf
    rcases hnew k hf with x | x
    ·exact absurd (h.apart e d k he x) c
    ·have := ((h.rows e).lt k he).2; omega
   ·rw [hve f c2] at hf
    exact h.apart e f k he hf
 ·by_cases c : e = d
  ·rw [c, hvd] at he
   rcases hnew k he with x | x
   ·exact h.apart2 d k x hr
   ·have := (h.hp.row.lt k hr).2; omega
  ·rw [hve e c] at he
   exact h.apart2 e k he hr
 ·by_cases c : e = d
  ·rw [c, hvd] at he
   exact .inr he
  ·rw [hve e c] at he
   exact .inl (h.FV e k he)
 ·rcases f with f | f
  ·exact ⟨(h.Flow k f).1, Nat.lt_of_lt_of_le (h.Flow k f).2 hbF.size⟩
  ·exact ⟨(holt k f).1, Nat.lt_of_lt_of_le (holt k f).2 h34.size⟩
theorem WtAt.heard {w' : World} {hv' : Value} {v' : Ints} (h : WtAt F B w g l v H Bh lv hv rv m V hs) (hb : Below w.heap.size w w') (ho : OwnsI w.heap.size w' hv' v') :
  WtAt F B (w'.setCell ⟨g, 1, none⟩ hv') g l v' H Bh lv hv' rv m V hs ∧ FTo F w F (w'.setCell ⟨g, 1, none⟩ hv') := by
 have h' := h.below hb
 have hz : (w'.setCell ⟨g, 1, none⟩ hv').heap.size = w'.heap.size := by simp [World.setCell]
 have hne : ∀ k, k ≠ g → (w'.setCell ⟨g, 1, none⟩ hv').heap[k]? = w'.heap[k]? := fun k e => Below.heap_setCell _ _ _ _ e
 have hlt := ho.lt
 have hgl := h.hp.lt
 refine ⟨⟨⟨heap_setCell_same _ g 1 _ _ _ h'.hp.box, h'.hp.row.keep fun k hk => hne k fun e => h'.hp.apart (by rw [hk, e]), h'.hp.low⟩, h'.heap, h'.perm, h'.list.agree fun b hl => hne b fun e => by have := h.hp.low; omega, (ho.mono h.size).keep fun k hk => hne k fun e => by have := (hlt k hk).1; omega, h'.map.keep (hne m h'.mg), fun d => (h'.rows d).keep fun k hk => hne k fun e => row_not_box (h'.rows d) h'.hp.box (by rw [hk, e]), h'.apart, h'.apart2, h'.Fg, h'.Fm, h'.Fr, h'.FV, fun k f => by rw [hz]; exact h'.Flow k f, by rw [hz]; exact h'.size, fun k hk f => by have := (hlt k hk).1; have := (h.Flow k f).2; omega⟩, ⟨(ButF.of hb).trans (ButF.set (F := F) h.Fg) fun x _ f => f, fun k f => .inl f⟩⟩
end
theorem otx_nodup_lenN : ∀ {a b : List Nat}, a.Nodup → (∀ x ∈ a, x ∈ b) → a.length ≤ b.length
 | [], _, _, _ => Nat.zero_le _
 | x :: a, b, hn, h => by
  have hn' := List.nodup_cons.1 hn
  have hx := h x (by simp)
  have h1 := otx_nodup_lenN (b := b.erase x) hn'.2 fun y hy => (List.mem_erase_of_ne (show y ≠ x from fun e => hn'.1 (by rw [← e]; exact hy))).2 (h y (by simp [hy]))
  have h2 := List.length_erase_of_mem hx
  have h3 := List.length_pos_of_mem hx
  rw [h2] at h1
  show a.length + 1 ≤ _
  omega
def RowsStay (v : Ints) (V : PDot → Value) (w : World) (V' : PDot → Value) (w' : World) : Prop := ∀ d : PDot, oHas v d.node d.seq → V' d = V d ∧ ∀ k, (V d).ownBlock = some k → w'.heap[k]? = w.heap[k]?
theorem RowsStay.refl (v : Ints) (V : PDot → Value) (w : World) : RowsStay v V w V w := fun d _ => ⟨rfl, fun _ _ => rfl⟩
theorem RowsStay.trans {v : Ints} {V V' V'' : PDot → Value} {a b c : World} (h : RowsStay v V a V' b) (k : RowsStay v V' b V'' c) : RowsStay v V a V'' c := fun d hd => by
 obtain ⟨h1, h2⟩ := h d hd
 obtain ⟨k1, k2⟩ := k d hd
 exact ⟨k1.trans h1, fun x hx => (k2 x (by rw [h1]; exact hx)).trans (h2 x hx)⟩
theorem WtAt.stayB {F : Nat → Prop} {B : Nat} {w w' : World} {g : Nat} {l : List PTxn} {v v2 : Ints} {H : List Nat} {Bh : Int → Int → List Nat} {lv hv rv : Value} {m : Nat} {V : PDot → Value} {hs : List Int} (h : WtAt F B w g l v H Bh lv hv rv m V hs) (hb : Below w.heap.size w w') : RowsStay v2 V w V w' :=
 fun d _ => ⟨rfl, fun k hk => hb.block k ((h.rows d).lt k hk).2⟩
theorem WtAt.stayH {F : Nat → Prop} {B : Nat} {w w' : World} {g : Nat} {l : List PTxn} {v v2 : Ints} {H : List Nat} {Bh : Int → Int → List Nat} {lv hv rv rv' : Value} {m : Nat} {V : PDot → Value} {hs : List Int} (h : WtAt F B w g l v H Bh lv hv rv m V hs) (ht : HpTo g w rv w' rv') : RowsStay v2 V w V w' :=
 fun d _ => ⟨rfl, fun k hk => ht.but.block k ((h.rows d).lt k hk).2 fun e => e.elim (fun e => row_not_box (h.rows d) h.hp.box (by rw [hk, e])) (h.apart2 d k hk)⟩
theorem WtAt.stayL {F : Nat → Prop} {B : Nat} {w w' : World} {g : Nat} {l : List PTxn} {v v2 : Ints} {H : List Nat} {Bh : Int → Int → List Nat} {lv hv rv v' : Value} {m : Nat} {V : PDot → Value} {hs : List Int} {d0 : PDot} (h : WtAt F B w g l v H Bh lv hv rv m V hs) (h0 : ¬ oHas v2 d0.node d0.seq)
  (ho : ∀ k, k < w.heap.size → k ≠ m → (V d0).ownBlock ≠ some k → w'.heap[k]? = w.heap[k]?) : RowsStay v2 V w (vset V d0 v') w' := fun d hd => by
 have hne : d ≠ d0 := fun e => h0 (e ▸ hd)
 refine ⟨by unfold vset; rw [if_neg hne], fun k hk => ho k ((h.rows d).lt k hk).2 (fun e => row_not_map (h.rows d) h.map (by rw [hk, e])) fun e => hne (h.apart d d0 k hk e)⟩
theorem places_len {l : List Nat} {n : Nat} (h : l.Nodup) (hl : ∀ j ∈ l, j < n) : l.length ≤ n := by
 have := otx_nodup_lenN h (b := List.range n) fun x hx => List.mem_range.2 (hl x hx)
 simpa using this
end Go.Proofs.YtpnpomocjkmncaaGreat
namespace Go.Proofs.YtpnpomocjkmncaaGreat
open Go.RowKit Plain
set_option linter.unusedVariables false

theorem step_entry {w : World} {ops : Array Oper} {o : Oper} {act : Act} {K : Act → World → Prop} {Q : Exit → Act → World → Prop} {E : Prop} (hw : Region.wanted o (yielded ops act.tmps) = true) (m x : Operand)
  (ho : o.op = .mapEntry 109 m x) {b : Nat} {V : PDot → Value} {d : PDot} (hm : act.eval m = .map (some b)) (hx : act.eval x = dv d) (hM : MapAt w b V) (hd : dotOk d)
  (h : ∀ (st : Nat) w1, MapAt w1 b V → StampAt w1 b d st → ButF (fun k => k = b) w w1 → w1.heap.size = w.heap.size → K (act.put o.dst (.tuple #[V d, goInt st])) w1) : if Region.wanted o (yielded ops act.tmps) = true then Oper.wp Tryz.prog o act w K Q else E := by
 rw [if_pos hw]
 obtain ⟨st, w1, hr, h1, h2, h3, h4⟩ := hM.entry hd
 unfold Oper.wp execOp
 simp only [ho, Sem.run_bind, Sem.run_pure, Result.andThen_ok, hm, hx, hr]
 exact h st w1 h1 h2 h3 h4
theorem step_stamp {w : World} {ops : Array Oper} {o : Oper} {act : Act} {K : Act → World → Prop} {Q : Exit → Act → World → Prop} {E : Prop} (hw : Region.wanted o (yielded ops act.tmps) = true) (m s x : Operand)
  (ho : o.op = .entryStore 109 m s x) {b st : Nat} {V : PDot → Value} {d : PDot} {v : Value} (hm : act.eval m = .map (some b)) (hs : act.eval s = goInt st) (hx : act.eval x = v) (hM : MapAt w b V) (hS : StampAt w b d st) (hd : dotOk d)
  (h : ∀ w1, MapAt w1 b (vset V d v) → ButF (fun k => k = b) w w1 → w1.heap.size = w.heap.size → K (act.put o.dst undef) w1) : if Region.wanted o (yielded ops act.tmps) = true then Oper.wp Tryz.prog o act w K Q else E := by
 rw [if_pos hw]
 obtain ⟨w1, hr, h1, h2, h3⟩ := hM.store hS hd v
 unfold Oper.wp execOp
 simp only [ho, Sem.run_bind, Sem.run_pure, Result.andThen_ok, hm, hs, hx, hr]
 exact h w1 h1 h2 h3
structure FitW (t : PTxn) : Prop where
 deps : t.deps.length ≤ 1000000
 effs : t.effs.length ≤ 1000000
 drops : ∀ e ∈ t.effs, e.drops.length ≤ 1000000
 ok : txnOk t
theorem FitW.small {t : PTxn} (h : FitW t) : TSmall t := (i64_in h.ok.2.1).2
theorem txns_spotB {B : Nat} {w : World} {v : Value} {xs : List PTxn} (h : Sq LTxn (fun b => b < B) w v xs) (hB : B ≤ w.heap.size) (hp : 0 < xs.length) : ∃ b o cap, v = .slice (some ⟨b, o, none⟩) xs.length cap ∧ xs.length ≤ cap ∧ cap ≤ 9223372036854775807 ∧
  ∀ j, j < xs.length → ∃ da dn dc ea en ec, TxnAt w b (o + j * 4) (otx xs j) (.slice da dn dc) (.slice ea en ec) ∧ IsTxn w (.agg #[.int .i64 (otx xs j).node, .int .i64 (otx xs j).seq, .slice da dn dc, .slice ea en ec]) (otx xs j) := by
 have hs : SeqE LTxn w v xs := h.mono fun b hb => Nat.lt_of_lt_of_le hb hB
 obtain ⟨b, o, cap, e, h1, h2, -, hc⟩ := txns_spot hs hp
 refine ⟨b, o, cap, e, h1, h2, fun j hj => ?_⟩
 obtain ⟨dv, ev, ha, hd, he⟩ := hc j hj
 obtain ⟨da, dc, rfl, -, -, -, hd'⟩ := hd.parts
 obtain ⟨ea, ec, rfl, -, -, -, he'⟩ := he.parts
 exact ⟨da, _, dc, ea, _, ec, ha, _, _, rfl, hd', he'⟩
theorem places_len2 {l : List PTxn} {v : Ints} {gm : List Bool} {H Q : List Nat} {Bh : Int → Int → List Nat} (o : OWait l v gm H Bh Q) : H.length ≤ l.length := places_len (List.nodup_append.1 o.nd).1 fun j hj => (o.hH j hj).1
theorem rows_len {l : List PTxn} {v : Ints} {gm : List Bool} {H Q : List Nat} {Bh : Int → Int → List Nat} (o : OWait l v gm H Bh Q) {n s : Int} (h : ¬ oHas v n s) : (Bh n s).length ≤ l.length := places_len (o.ndB n s h) fun j hj => (o.hB n s h j hj).1
theorem nums_len (H : List Nat) : (nums H).length = H.length := by unfold nums; simp

theorem dot_ne_int : 62 ≠ 3 := by decide
theorem seqI_keep {w w' : World} {b n c : Nat} {xs : Ints} (h : SeqI w (.slice (some ⟨b, 0, none⟩) n c) xs) (hb : w'.heap[b]? = w.heap[b]?) : SeqI w' (.slice (some ⟨b, 0, none⟩) n c) xs := by
 obtain ⟨a, cap, hv, h1, h2, h0, h3⟩ := h
 refine ⟨a, cap, hv, h1, h2, h0, fun hp => ?_⟩
 obtain ⟨b', off, rfl, hc⟩ := h3 hp
 simp only [Value.slice.injEq, Option.some.injEq, Addr.mk.injEq, and_true] at hv
 obtain ⟨⟨rfl, rfl⟩, -, -⟩ := hv
 exact ⟨b, 0, rfl, fun j hj => (World.cell?_of_block (a := ⟨b, 0 + j, none⟩) hb).trans (hc j hj)⟩
theorem lt_of_same {u w : World} {g : Nat} (h : u.heap[g]? = w.heap[g]?) (hg : g < w.heap.size) : g < u.heap.size := by
 rw [Array.getElem?_eq_getElem hg] at h
 exact (Array.getElem?_eq_some_iff.1 h).1
theorem st3w {w : World} {g : Nat} {z0 z1 z2 : Value} {t : TypeId} (h : w.heap[g]? = some (.cells #[z0, z1, z2] t (0, 0))) (a b c : Value) : (((w.setCell ⟨g, 0, none⟩ a).setCell ⟨g, 1, none⟩ b).setCell ⟨g, 2, none⟩ c).heap[g]? = some (.cells #[a, b, c] t (0, 0)) :=
 heap_setCell_same _ g 2 _ _ c (heap_setCell_same _ g 1 _ _ b (heap_setCell_same _ g 0 _ _ a h))
def WaitTo (F : Nat → Prop) (B : Nat) (w : World) (g : Nat) (l : List PTxn) (v : Ints) (gm : List Bool) (Q : List Nat) (lv hv : Value) (m : Nat) (V : PDot → Value) (e : Ending) (w' : World) : Prop :=
 e = .returned (.tuple #[]) ∧ ∃ F' H' Bh' rv' V' hs', WtAt F' B w' g l v H' Bh' lv hv rv' m V' hs' ∧ OWait l v gm H' Bh' Q ∧ FTo F w F' w' ∧ RowsStay v V w V' w'
set_option maxRecDepth 100000 in
set_option maxHeartbeats 16000000 in
theorem wait_any {F : Nat → Prop} {B : Nat} {w : World} {g : Nat} {l : List PTxn} {v : Ints} {H : List Nat} {Bh : Int → Int → List Nat} {gm : List Bool} {p : Nat} {Q : List Nat} {lv hv rv : Value} {m : Nat} {V : PDot → Value} {hs : List Int} (h : WtAt F B w g l v H Bh lv hv rv m V hs) (ow : OWait l v gm H Bh (p :: Q)) (hl : l.length ≤ 1000000) (hf : ∀ t ∈ l, FitW t) (hvl : v.length ≤ 1000000) :
  Calls Tryz.prog 91 #[.pointer (some ⟨g, 0, none⟩), .int .i64 p] w (WaitTo F B w g l v gm Q lv hv m V) := by
 have hp := (ow.hQ p (by simp)).1
 obtain ⟨lb, lo, lc, rfl, L1, L2, hc⟩ := txns_spotB h.list h.size (by omega)
 obtain ⟨da, dn, dc, ea, en, ec, TA, IT⟩ := hc p hp
 have hft := hf (otx l p) (by rw [otx_lt hp]; exact List.getElem_mem hp)
 obtain ⟨va, vc, rfl, -, -, -, SV⟩ := SeqE.parts (L := LInt) h.vecS
 have SVI := Lib.hid (seqI_of SV)
 have HW := Lib.hid h
 have OW := Lib.hid ow
 have KL := Lib.hid (fun u (hb : Below w.heap.size w u) => lacking_any (SVI.out.below hb) (IT.below hb) hft.deps ⟨hft.ok.1, hft.ok.2.2.1⟩)
 have HSM := Lib.hid hft.small
 obtain ⟨⟨b0, b1, -, -⟩, -, -⟩ := h.hp.cell
 have hgl := h.hp.lt
 obtain ⟨t, hT⟩ : ∃ t, t = otx l p := ⟨_, rfl⟩
 rw [← hT] at TA IT KL HSM hft
 have HTT := Lib.hid hT
 obtain ⟨ln, hln⟩ : ∃ n, n = l.length := ⟨_, rfl⟩
 obtain ⟨vn, hvn⟩ : ∃ n, n = v.length := ⟨_, rfl⟩
 rw [← hln] at b0 L1 hp
 rw [← hvn] at b1 KL
 have HLN := Lib.hid hln
 have KE : Hid (∀ u, Below w.heap.size w u → Below w.heap.size w u ∧ u.cell? ⟨g, 0, none⟩ = some (.slice (some ⟨lb, lo, none⟩) ln lc) ∧ u.cell? ⟨g, 1, none⟩ = some (.slice va vn vc) ∧ u.cell? ⟨lb, lo + p * 4, none⟩ = some (.int .i64 t.node) ∧ u.cell? ⟨lb, lo + p * 4 + 1, none⟩ = some (.int .i64 t.seq) ∧ u.cell? ⟨lb, lo + p * 4 + 2, none⟩ = some (.slice da dn dc) ∧ u.cell? ⟨lb, lo + p * 4 + 3, none⟩ = some (.slice ea en ec)) := Lib.hid (fun u hb => by
  have TB := TA.below hb TA.lt
  exact ⟨hb, (hb.cell (p := ⟨g, 0, none⟩) hgl).trans b0, (hb.cell (p := ⟨g, 1, none⟩) hgl).trans b1, TB.c0, TB.c1, TB.c2, TB.c3⟩)
 have L3 : (p : Int) < ln := by omega
 have L4 : (ln : Int) ≤ lc := by omega
 have L5 : (lc : Int) ≤ 9223372036854775807 := by omega
 clear TA IT hc h ow hT hln hvn SV hft L1 L2
 go_enter Tryz.func91, Tryz.ntmps91
 go_upto_region 0 with fail
 clear b0 b1
 go_cut [4, 5] (fun s4 s5 wx => ∃ (gd : Nat) (n s : Int) (bo : Bool), s4 = .pointer (some ⟨gd, 0, none⟩) ∧ s5 = .bool bo ∧ wx.heap[gd]? = some (.cells #[.int .i64 n, .int .i64 s, .int .i64 0] 62 (0, 0)) ∧ (bo = true → LackOk v t n s ∧ dotOk ⟨n, s, 0⟩) ∧ (bo = false → OClear v t) ∧ Below w.heap.size w wx)
 case first =>
  refine wp_region_held_drew (S := fun u' => Below w.heap.size w u' ∧ u'.cell? ⟨g, 0, none⟩ = some (.slice (some ⟨lb, lo, none⟩) ln lc) ∧ u'.cell? ⟨g, 1, none⟩ = some (.slice va vn vc) ∧ u'.cell? ⟨lb, lo + p * 4, none⟩ = some (.int .i64 t.node) ∧ u'.cell? ⟨lb, lo + p * 4 + 1, none⟩ = some (.int .i64 t.seq) ∧ u'.cell? ⟨lb, lo + p * 4 + 2, none⟩ = some (.slice da dn dc) ∧ u'.cell? ⟨lb, lo + p * 4 + 3, none⟩ = some (.slice ea en ec)) (by kernel_rfl) ?_ (fun hHeld => ?_)
  ·(exact KE.out _ (Below.refl _ _).drew)
  simp only [List.size_toArray, List.length_cons, List.length_nil, Nat.zero_add, Nat.reduceAdd]
  refine tkB (i := 0) hHeld ?_
  refine tkB (i := 1) hHeld ?_
  refine tkB (i := 2) hHeld ?_
  refine tkB (i := 3) hHeld ?_
  refine tkB (i := 4) hHeld ?_
  refine tkB (i := 5) hHeld ?_
  refine tkB (i := 6) hHeld ?_
  refine tkB (i := 7) hHeld ?_
  refine tkB (i := 8) hHeld ?_
  refine tkB (i := 9) hHeld ?_
  refine tkB (i := 10) hHeld ?_
  refine wpAnyH_ready (rs := [11, 15]) (by kernel_rfl) (by simp) ?_
  refine AllReadyH.cons rfl (fun K hK => ?_) (AllReadyH.cons rfl (fun K hK => ?_) AllReadyH.nil)
  ·go_simp
   refine (KL.out _ hHeld.1).mono ?_
   rintro e s1 ⟨n, s, bo, rfl, hy, hn, hb⟩
   have HY := Lib.hid hy
   have HN := Lib.hid hn
   have Z1 := Lib.hid hb.size
   clear hy hn
   refine hK.out _ _ (KE.out _ (holdC hHeld hb)) (fun hHeld => ?_)
   clear hK K hb
   refine tkB (i := 12) hHeld ?_
   refine tkB (i := 13) hHeld ?_
   refine tkB (i := 14) hHeld ?_
   refine wpAnyH_ready (rs := [15]) (by kernel_rfl) (by simp) ?_
   refine AllReadyH.cons rfl (fun K hK => ?_) AllReadyH.nil
   go_simp
   have DQ : Hid ((s1.alloc (.cells #[.int .i64 0, .int .i64 0, .int .i64 0] 62)).heap[s1.heap.size]? = some (.cells #[.int .i64 0, .int .i64 0, .int .i64 0] 62 (0, 0))) := Lib.hid (heap_alloc_new s1 _)
   have DW : Hid (w.heap.size ≤ s1.heap.size) := Lib.hid hHeld.1.size
   refine hK.out _ _ (KE.out _ (hHeld.1.alloc hHeld.1.size _)) (fun hHeld => ?_)
   clear hK K
   generalize hD : s1.heap.size = gd at *
   generalize (s1.alloc (.cells #[.int .i64 0, .int .i64 0, .int .i64 0] 62)) = s2 at *
   have t0 := cell_of_row _ _ 0 _ _ _ DQ.out
   have t1 := cell_of_row _ _ 1 _ _ _ DQ.out
   have t2 := cell_of_row _ _ 2 _ _ _ DQ.out
   have f0 := free_of DQ.out 0
   have f1 := free_of DQ.out 1
   have f2 := free_of DQ.out 2
   simp only [List.getElem?_toArray, List.getElem?_cons_zero, List.getElem?_cons_succ] at t0 t1 t2
   refine wpAnyH_ready (rs := [16]) (by kernel_rfl) (by simp) ?_
   refine AllReadyH.cons rfl (fun K hK => ?_) AllReadyH.nil
   go_simp
   have DS := Lib.hid (st3w DQ.out (.int .i64 n) (.int .i64 s) (.int .i64 0))
   have DB := Lib.hid (hHeld.1)
   refine hK.out _ _ (KE.out _ ?_) (fun hHeld => ?_)
   ·exact ((DB.out.setCell DW.out _).setCell DW.out _).setCell DW.out _
   clear hK K t0 t1 t2 f0 f1 f2
   refine tkB (i := 17) hHeld ?_
   refine wpAnyH_done (by kernel_rfl) ?_ _
   have GZ : Hid (Below w.heap.size w _) := Lib.hid hHeld.1
   clear hHeld
   go_wp2_with fail
   go_meet
   exact ⟨gd, n, s, bo, rfl, rfl, DS.out, HY.out, HN.out, GZ.out⟩
  ·go_simp
   have DQ0 : Hid ((w.drew.alloc (.cells #[.int .i64 0, .int .i64 0, .int .i64 0] 62)).heap[w.heap.size]? = some (.cells #[.int .i64 0, .int .i64 0, .int .i64 0] 62 (0, 0))) := Lib.hid (heap_alloc_new w.drew _)
   refine hK.out _ _ (KE.out _ (hHeld.1.alloc hHeld.1.size _)) (fun hHeld => ?_)
   clear hK K
   have ZD : Hid (w.heap.size < (w.drew.alloc (.cells #[.int .i64 0, .int .i64 0, .int .i64 0] 62)).heap.size) := Lib.hid (by simp)
   refine wpAnyH_ready (rs := [11]) (by kernel_rfl) (by simp) ?_
   refine AllReadyH.cons rfl (fun K hK => ?_) AllReadyH.nil
   go_simp
   refine (KL.out _ hHeld.1).mono ?_
   rintro e s1 ⟨n, s, bo, rfl, hy, hn, hb⟩
   have HY := Lib.hid hy
   have HN := Lib.hid hn
   have Z1 := Lib.hid hb.size
   clear hy hn
   have DQ : Hid (s1.heap[w.heap.size]? = some (.cells #[.int .i64 0, .int .i64 0, .int .i64 0] 62 (0, 0))) := Lib.hid ((hb.block _ ZD.out).trans DQ0.out)
   refine hK.out _ _ (KE.out _ (holdC hHeld hb)) (fun hHeld => ?_)
   clear hK K hb
   refine tkB (i := 12) hHeld ?_
   refine tkB (i := 13) hHeld ?_
   refine tkB (i := 14) hHeld ?_
   have DW : Hid (w.heap.size ≤ w.heap.size) := Lib.hid (Nat.le_refl _)
   have t0 := cell_of_row _ _ 0 _ _ _ DQ.out
   have t1 := cell_of_row _ _ 1 _ _ _ DQ.out
   have t2 := cell_of_row _ _ 2 _ _ _ DQ.out
   have f0 := free_of DQ.out 0
   have f1 := free_of DQ.out 1
   have f2 := free_of DQ.out 2
   simp only [List.getElem?_toArray, List.getElem?_cons_zero, List.getElem?_cons_succ] at t0 t1 t2
   refine wpAnyH_ready (rs := [16]) (by kernel_rfl) (by simp) ?_
   refine AllReadyH.cons rfl (fun K hK => ?_) AllReadyH.nil
   go_simp
   have DS := Lib.hid (st3w DQ.out (.int .i64 n) (.int .i64 s) (.int .i64 0))
   have DB := Lib.hid (hHeld.1)
   refine hK.out _ _ (KE.out _ ?_) (fun hHeld => ?_)
   ·exact ((DB.out.setCell DW.out _).setCell DW.out _).setCell DW.out _
   clear hK K t0 t1 t2 f0 f1 f2
   refine tkB (i := 17) hHeld ?_
   refine wpAnyH_done (by kernel_rfl) ?_ _
   have GZ : Hid (Below w.heap.size w _) := Lib.hid hHeld.1
   clear hHeld
   go_wp2_with fail
   go_meet
   exact ⟨w.heap.size, n, s, bo, rfl, rfl, DS.out, HY.out, HN.out, GZ.out⟩
 case rest =>
  obtain ⟨gd, n, s, bo, rfl, rfl, hd, hy, hn, hb⟩ := hcut
  have H1 := Lib.hid (HW.out.below hb)
  have GB := Lib.hid hb
  have DQ := Lib.hid hd
  have HLE : Hid (H.length ≤ l.length) := Lib.hid (places_len2 OW.out)
  cases bo
  ·have HC := Lib.hid (hn rfl)
   have KP := Lib.hid (hpush_any H1.out.hp H1.out.heap H1.out.size (p : Int) (by rw [H1.out.perm.length_eq, nums_len]; have := HLE.out; omega))
   clear hd hy hn hb
   go_wp2_with (go_at_call 129; refine KP.out.mono ?_; rintro e w2 ⟨rfl, rv2, ys, h2, i2, p2, t2⟩; have R := Lib.hid (H1.out.heaped h2 i2 (nums_cons p2 H1.out.perm) t2); have RS := Lib.hid ((HW.out.stayB (v2 := v) GB.out).trans (H1.out.stayH t2)); clear h2 i2 p2 t2)
   go_end0
   exact ⟨rfl, _, p :: H, Bh, _, _, _, R.out.1, OW.out.push (by rw [← HTT.out]; exact HC.out), (FTo.of GB.out).trans R.out.2, RS.out⟩
  ·obtain ⟨hy1, hy2⟩ := hy rfl
   have HY1 := Lib.hid hy1
   have HY2 := Lib.hid hy2
   have HRL : Hid ((rowOf Bh ⟨n, s, 0⟩).length ≤ l.length) := Lib.hid (by
    unfold rowOf
    rw [if_pos rfl, nums_len]
    exact rows_len OW.out hy1.lacks)
   obtain ⟨⟨-, -, -, b3⟩, -, -⟩ := H1.out.hp.cell
   have q0 := cell_of_row _ _ 0 _ _ _ hd
   have q1 := cell_of_row _ _ 1 _ _ _ hd
   have q2 := cell_of_row _ _ 2 _ _ _ hd
   simp only [List.getElem?_toArray, List.getElem?_cons_zero, List.getElem?_cons_succ] at q0 q1 q2
   have hgw : g < wc.heap.size := H1.out.hp.lt
   have hdw : gd < wc.heap.size := (Array.getElem?_eq_some_iff.1 hd).1
   have KS : Hid (∀ u : World, u.heap[g]? = wc.heap[g]? → u.heap[gd]? = wc.heap[gd]? → u.cell? ⟨g, 3, none⟩ = some (.map (some m)) ∧ u.cell? ⟨gd, 0, none⟩ = some (.int .i64 n) ∧ u.cell? ⟨gd, 1, none⟩ = some (.int .i64 s) ∧ u.cell? ⟨gd, 2, none⟩ = some (.int .i64 0)) := Lib.hid (fun u h1 h2 => ⟨(World.cell?_of_block (a := ⟨g, 3, none⟩) h1).trans b3, (World.cell?_of_block (a := ⟨gd, 0, none⟩) h2).trans q0, (World.cell?_of_block (a := ⟨gd, 1, none⟩) h2).trans q1, (World.cell?_of_block (a := ⟨gd, 2, none⟩) h2).trans q2⟩)
   have NG : Hid (g ≠ m) := Lib.hid (fun e => H1.out.mg e.symm)
   have ND : Hid (gd ≠ m) := Lib.hid (fun e => by
    obtain ⟨es, clock, hb', -⟩ := H1.out.map
    rw [← e, hd] at hb'
    cases hb')
   have RG : Hid ((V ⟨n, s, 0⟩).ownBlock ≠ some g) := Lib.hid (row_not_box (H1.out.rows _) H1.out.hp.box)
   have RD : Hid ((V ⟨n, s, 0⟩).ownBlock ≠ some gd) := Lib.hid (fun e => by
    obtain ⟨c, fz, hk⟩ := Lib.ownsRow_kind (H1.out.rows ⟨n, s, 0⟩) gd e
    rw [hd] at hk
    simp only [Option.some.injEq, Obj.cells.injEq] at hk
    exact dot_ne_int hk.2.1)
   have RM : Hid ((V ⟨n, s, 0⟩).ownBlock ≠ some m) := Lib.hid (row_not_map (H1.out.rows _) H1.out.map)
   have GW := Lib.hid hgw
   have DW := Lib.hid hdw
   clear hd hy hn hb hy1 hy2 b3 q0 q1 q2 hgw hdw
   go_wp2_with fail
   refine wp_region_held_drew (S := fun u' => u'.cell? ⟨g, 3, none⟩ = some (.map (some m)) ∧ u'.cell? ⟨gd, 0, none⟩ = some (.int .i64 n) ∧ u'.cell? ⟨gd, 1, none⟩ = some (.int .i64 s) ∧ u'.cell? ⟨gd, 2, none⟩ = some (.int .i64 0)) (by kernel_rfl) ?_ (fun hHeld => ?_)
   ·(exact KS.out _ rfl rfl)
   simp only [List.size_toArray, List.length_cons, List.length_nil, Nat.zero_add, Nat.reduceAdd]
   refine tkB (i := 0) hHeld ?_
   refine tkB (i := 1) hHeld ?_
   refine tkB (i := 2) hHeld ?_
   refine tkB (i := 3) hHeld ?_
   refine tkB (i := 4) hHeld ?_
   refine tkB (i := 5) hHeld ?_
   have HA : Hid (Below wc.heap.size wc (wc.drew.alloc (.cells #[.int .i64 p] 3))) := Lib.hid ((Below.refl _ _).drew.alloc (Nat.le_refl _) _)
   have M1 := Lib.hid (H1.out.map.below HA.out)
   have O1 := Lib.hid ((H1.out.rows ⟨n, s, 0⟩).below HA.out (Nat.le_refl _))
   have S1 : Hid (SeqI (wc.drew.alloc (.cells #[.int .i64 p] 3)) (.slice (some ⟨wc.heap.size, 0, none⟩) 1 1) [(p : Int)]) := Lib.hid (SeqI.one wc.drew (p : Int))
   have Z1 : Hid (wc.heap.size < (wc.drew.alloc (.cells #[.int .i64 p] 3)).heap.size) := Lib.hid (by simp)
   refine wpAnyH_ready (rs := [6]) (by kernel_rfl) (by simp) ?_
   refine AllReadyH.cons rfl (fun K hK => ?_) AllReadyH.nil
   go_simp
   refine hK.out _ _ (KS.out _ (HA.out.block _ GW.out) (HA.out.block _ DW.out)) (fun hHeld => ?_)
   clear hK K
   refine wpAnyH_ready (rs := [7]) (by kernel_rfl) (by simp) ?_
   refine AllReadyH.cons rfl (fun K hK => ?_) AllReadyH.nil
   refine step_entry (by rfl) (.tmp 25) (.tmp 26) rfl (b := m) (V := V) (d := ⟨n, s, 0⟩) rfl rfl M1.out HY2.out ?_
   intro st u2 hm2 hs2 hb2 hz2
   have M2 := Lib.hid hm2
   have S2 := Lib.hid hs2
   have B2 := Lib.hid hb2
   have Z2 := Lib.hid hz2
   have G2 : Hid (u2.heap[g]? = wc.heap[g]?) := Lib.hid ((hb2.block g (Nat.lt_trans GW.out Z1.out) NG.out).trans (HA.out.block _ GW.out))
   have D2 : Hid (u2.heap[gd]? = wc.heap[gd]?) := Lib.hid ((hb2.block gd (Nat.lt_trans DW.out Z1.out) ND.out).trans (HA.out.block _ DW.out))
   have O2 : Hid (OwnsI B u2 (V ⟨n, s, 0⟩) (rowOf Bh ⟨n, s, 0⟩)) := Lib.hid (O1.out.keep fun k hk => hb2.block k (O1.out.lt k hk).2 fun e => RM.out (by rw [hk, show k = m from e]))
   have L2 : Hid (SeqI u2 (.slice (some ⟨wc.heap.size, 0, none⟩) 1 1) [(p : Int)]) := Lib.hid (seqI_keep S1.out (hb2.block _ Z1.out (fun e => by have := H1.out.map.lt; omega)))
   clear hm2 hs2 hb2 hz2
   refine hK.out _ _ (KS.out _ G2.out D2.out) (fun hHeld => ?_)
   clear hK K
   refine tkB (i := 8) hHeld ?_
   refine tkB (i := 10) hHeld ?_
   refine wpAnyH_ready (rs := [9]) (by kernel_rfl) (by simp) ?_
   refine AllReadyH.cons rfl (fun K hK => ?_) AllReadyH.nil
   refine step_append_ints 22 Tryz.underlying22 (by rfl) (.tmp 27) (.tmp 29) rfl B rfl O2.out rfl L2.out (by have := HRL.out; simp; omega) (Nat.le_trans H1.out.size (Nat.le_trans (Nat.le_of_lt Z1.out) (Nat.le_of_eq Z2.out.symm))) ?_
   intro v3 u3 ho3 hg3 hat3
   have O3 := Lib.hid ho3
   have X3 := Lib.hid hg3
   have T3 := Lib.hid hat3
   have G3 : Hid (u3.heap[g]? = wc.heap[g]?) := Lib.hid ((hg3.block g (Nat.lt_of_lt_of_eq (Nat.lt_trans GW.out Z1.out) Z2.out.symm) (fun e => RG.out e.symm)).trans G2.out)
   have D3 : Hid (u3.heap[gd]? = wc.heap[gd]?) := Lib.hid ((hg3.block gd (Nat.lt_of_lt_of_eq (Nat.lt_trans DW.out Z1.out) Z2.out.symm) (fun e => RD.out e.symm)).trans D2.out)
   have E3 : Hid (u3.heap[m]? = u2.heap[m]?) := Lib.hid (hg3.block m M2.out.lt (fun e => RM.out e.symm))
   have M3 := Lib.hid (M2.out.keep E3.out)
   have S3 := Lib.hid (S2.out.keep E3.out)
   clear ho3 hg3 hat3
   refine hK.out _ _ (KS.out _ G3.out D3.out) (fun hHeld => ?_)
   clear hK K
   refine wpAnyH_ready (rs := [11]) (by kernel_rfl) (by simp) ?_
   refine AllReadyH.cons rfl (fun K hK => ?_) AllReadyH.nil
   refine step_stamp (by rfl) (.tmp 25) (.tmp 32) (.tmp 31) rfl (b := m) (V := V) (d := ⟨n, s, 0⟩) rfl rfl rfl M3.out S3.out HY2.out ?_
   intro u4 hm4 hb4 hz4
   have R := Lib.hid (WtAt.laid H1.out HA.out B2.out O3.out X3.out T3.out hb4 hm4 rfl)
   have GZ := Lib.hid ((hb4.block g (lt_of_same G3.out GW.out) NG.out).trans G3.out)
   have DZ := Lib.hid ((hb4.block gd (lt_of_same D3.out DW.out) ND.out).trans D3.out)
   clear hm4 hb4 hz4
   refine hK.out _ _ (KS.out _ GZ.out DZ.out) (fun hHeld => ?_)
   clear hK K
   refine wpAnyH_done (by kernel_rfl) ?_ _
   clear hHeld
   go_wp2_with fail
   (try simp only [Exit.inBlock, Exit.then])
   refine bodyPost_ret (results_none rfl _ _ _) rfl ?_
   exact ⟨rfl, _, H, oLay Bh n s p, _, _, _, R.out.1, OW.out.lay (by rw [← HTT.out]; exact HSM.out) (by rw [← HTT.out]; exact HY1.out), (FTo.of GB.out).trans R.out.2.1, (HW.out.stayB (v2 := v) GB.out).trans (H1.out.stayL (d0 := ⟨n, s, 0⟩) HY1.out.lacks R.out.2.2)⟩
end Go.Proofs.YtpnpomocjkmncaaGreat
