/- WORDS FOR A NETWORK THAT IS MADE; the document's own Copy of networks. (Written by gen-ntcopy.py.) -/
import Derived.Test.YtgllaoanpemjlaaNtRefS
import Derived.Test.YtgllaoanpemjlaaElJ
import Derived.Deep.RegionLaw
namespace Go.Proofs.Ytgllaoanpemjlaa
open Go.RowKit Plain
set_option linter.unusedVariables false

/-- a network whose packets lie in blocks of J, its list a slice of the call's own -/
def MadeN (J : World → Nat → Prop) (w : World) (xs : List PPkt) (e : Ending) (w' : World) : Prop := ∃ v, e = .returned (.agg #[v]) ∧ OwnJ (J w) LPkt w.heap.size w' v xs ∧ Below w.heap.size w w'
theorem step_append_elJ {α : Type} {w : World} {ops : Array Oper} {o : Oper} {act : Act} {K : Act → World → Prop} {Q : Exit → Act → World → Prop} {E : Prop} (J : Nat → Prop) (L : El α) (hw : Region.wanted o (yielded ops act.tmps) = true) (s x : Operand)
    (ho : o.op = .call { callee := .builtin .append, args := #[s, x], argTypes := #[L.S, L.S] }) (B : Nat) {v u : Value} {xs ys : List α}
    (hs : act.eval s = v) (hown : OwnJ J L B w v xs) (hx : act.eval x = u) {K' : Nat → Prop} (hseq : Sq L K' w u ys) (hI : ∀ vs x, L.R K' w vs x → L.R (fun b => J b ∧ b < w.heap.size ∧ v.ownBlock ≠ some b) w vs x) (hlen : xs.length + ys.length ≤ 1073741824) (hbase : B ≤ w.heap.size)
    (h : ∀ v' w', OwnJ J L B w' v' (xs ++ ys) → w.grownBy w' v.ownBlock → K (act.put o.dst v') w') : if Region.wanted o (yielded ops act.tmps) = true then Oper.wp Try.prog o act w K Q else E := by
  rw [if_pos hw]
  obtain ⟨v', w', hr, h2, h3, h4⟩ := run_append_elJ J B o.type hown hseq hI hlen hbase
  unfold Oper.wp execOp
  simp only [ho, resolve, invoke, builtin, Sem.run_bind, Sem.run_pure, Result.andThen_ok, List.map_toArray, List.map_cons, List.map_nil, hs, hx, hr]
  exact h v' w' h2 h3
/-- one packet in a block of its own -/
theorem one_pkt {W : World} {x : PPkt} {bv : Value} {D N : Nat → Prop} (hd : Sq LByte D W bv x.bytes) (hD : ∀ b, D b → b < W.heap.size) (hN : ∀ b, D b → N b) (hz : N W.heap.size) :
    Sq LPkt N (W.alloc (.cells #[.int .i64 x.frm, .int .i64 x.to, bv] 27)) (.slice (some ⟨W.heap.size, 0, none⟩) 1 1) [x] := by
  have hB : Below W.heap.size W (W.alloc (.cells #[.int .i64 x.frm, .int .i64 x.to, bv] 27)) := (Below.refl _ _).alloc (Nat.le_refl _) _
  have hd2 : Sq LByte N (W.alloc (.cells #[.int .i64 x.frm, .int .i64 x.to, bv] 27)) bv x.bytes := (hd.agree fun b hb => hB.block b (hD b hb)).mono hN
  refine ⟨_, 1, cellsPk x bv, rfl, Nat.le_refl _, by unfold maxLen; simp, (by simp), Rows.of_one ⟨_, rfl, hd2⟩, fun _ => ⟨_, 0, rfl, hz, fun i u' hu => ?_⟩⟩
  rw [Nat.zero_add]
  have := World.cell?_alloc_new W #[.int .i64 x.frm, .int .i64 x.to, bv] 27 i
  rw [this, ← Array.getElem?_toList]
  exact hu
theorem ownB_of {B : Nat} {w : World} {v : Value} {xs : Bytes} (h : By.Owns B w v xs) : OwnE LByte B w v xs := by
  refine ⟨xs.map By.bv, h, by rw [List.length_map]; show _ = xs.length * 1; omega, fun j x hj => ?_⟩
  show ((xs.map By.bv).drop (j * 1)).take 1 = [By.bv x]
  obtain ⟨hl, rfl⟩ := List.getElem?_eq_some_iff.1 hj
  rw [Nat.mul_one, List.take_one]
  simp [List.getElem?_eq_getElem hl]
theorem pk_take {xs : List PPkt} {k : Nat} (hk : k < xs.length) : xs.take (k + 1) = xs.take k ++ [pk xs k] := by
  unfold pk
  rw [List.take_add_one]
  simp [List.getD, List.getElem?_eq_getElem hk]
/-- three variables of a network each: what was handed in, the answer, what is made -/
theorem three_nets (w : World) (a : Option Addr) (n cap : Nat) : Below w.heap.size w (((w.alloc (.cells #[.slice a n cap] 24)).alloc (.cells #[.slice none 0 0] 24)).alloc (.cells #[.slice none 0 0] 24)) ∧ (((w.alloc (.cells #[.slice a n cap] 24)).alloc (.cells #[.slice none 0 0] 24)).alloc (.cells #[.slice none 0 0] 24)).cell? ⟨w.heap.size, 0, none⟩ = some (.slice a n cap) ∧
    ((((w.alloc (.cells #[.slice a n cap] 24)).alloc (.cells #[.slice none 0 0] 24)).alloc (.cells #[.slice none 0 0] 24)).cell? ⟨w.heap.size + 1, 0, none⟩ = some (.slice none 0 0) ∧ (((w.alloc (.cells #[.slice a n cap] 24)).alloc (.cells #[.slice none 0 0] 24)).alloc (.cells #[.slice none 0 0] 24)).frozen? ⟨w.heap.size + 1, 0, none⟩ = false) ∧
    ((((w.alloc (.cells #[.slice a n cap] 24)).alloc (.cells #[.slice none 0 0] 24)).alloc (.cells #[.slice none 0 0] 24)).cell? ⟨w.heap.size + 2, 0, none⟩ = some (.slice none 0 0) ∧ (((w.alloc (.cells #[.slice a n cap] 24)).alloc (.cells #[.slice none 0 0] 24)).alloc (.cells #[.slice none 0 0] 24)).frozen? ⟨w.heap.size + 2, 0, none⟩ = false) ∧ (((w.alloc (.cells #[.slice a n cap] 24)).alloc (.cells #[.slice none 0 0] 24)).alloc (.cells #[.slice none 0 0] 24)).heap.size = w.heap.size + 3 := by
  have B1 : Below w.heap.size w (w.alloc (.cells #[.slice a n cap] 24)) := (Below.refl _ _).alloc (Nat.le_refl _) _
  have s1 : (w.alloc (.cells #[.slice a n cap] 24)).heap.size = w.heap.size + 1 := by simp
  have s2 : ((w.alloc (.cells #[.slice a n cap] 24)).alloc (.cells #[.slice none 0 0] 24)).heap.size = w.heap.size + 2 := by simp
  have s3 : (((w.alloc (.cells #[.slice a n cap] 24)).alloc (.cells #[.slice none 0 0] 24)).alloc (.cells #[.slice none 0 0] 24)).heap.size = w.heap.size + 3 := by simp
  have e1 := World.cell?_alloc_new w #[.slice a n cap] 24 0
  have e2 := World.cell?_alloc_new (w.alloc (.cells #[.slice a n cap] 24)) #[.slice none 0 0] 24 0
  have e3 := World.cell?_alloc_new ((w.alloc (.cells #[.slice a n cap] 24)).alloc (.cells #[.slice none 0 0] 24)) #[.slice none 0 0] 24 0
  rw [s1] at e2
  rw [s2] at e3
  have h2 : Below (w.heap.size + 1) (w.alloc (.cells #[.slice a n cap] 24)) ((w.alloc (.cells #[.slice a n cap] 24)).alloc (.cells #[.slice none 0 0] 24)) := (Below.refl _ _).alloc (by rw [s1]; exact Nat.le_refl _) _
  have h3 : Below (w.heap.size + 2) ((w.alloc (.cells #[.slice a n cap] 24)).alloc (.cells #[.slice none 0 0] 24)) (((w.alloc (.cells #[.slice a n cap] 24)).alloc (.cells #[.slice none 0 0] 24)).alloc (.cells #[.slice none 0 0] 24)) := (Below.refl _ _).alloc (by rw [s2]; exact Nat.le_refl _) _
  have b2 : ((w.alloc (.cells #[.slice a n cap] 24)).alloc (.cells #[.slice none 0 0] 24)).heap[w.heap.size + 1]? = some (.cells #[.slice none 0 0] 24 (0, 0)) := by rw [← s1]; exact heap_alloc_new (w.alloc (.cells #[.slice a n cap] 24)) _
  have b2' : (((w.alloc (.cells #[.slice a n cap] 24)).alloc (.cells #[.slice none 0 0] 24)).alloc (.cells #[.slice none 0 0] 24)).heap[w.heap.size + 1]? = some (.cells #[.slice none 0 0] 24 (0, 0)) := (h3.block (w.heap.size + 1) (by omega)).trans b2
  have b3 : (((w.alloc (.cells #[.slice a n cap] 24)).alloc (.cells #[.slice none 0 0] 24)).alloc (.cells #[.slice none 0 0] 24)).heap[w.heap.size + 2]? = some (.cells #[.slice none 0 0] 24 (0, 0)) := by rw [← s2]; exact heap_alloc_new ((w.alloc (.cells #[.slice a n cap] 24)).alloc (.cells #[.slice none 0 0] 24)) _
  have fr : ∀ {g : Nat} {u : World}, u.heap[g]? = some (.cells #[.slice none 0 0] 24 (0, 0)) → u.frozen? ⟨g, 0, none⟩ = false := fun {g u} h => by unfold World.frozen?; rw [h]; simp
  have h23 : Below (w.heap.size + 1) (w.alloc (.cells #[.slice a n cap] 24)) (((w.alloc (.cells #[.slice a n cap] 24)).alloc (.cells #[.slice none 0 0] 24)).alloc (.cells #[.slice none 0 0] 24)) := h2.trans (h3.mono (by omega))
  exact ⟨B1.trans (h23.mono (by omega)), (h23.cell (p := ⟨w.heap.size, 0, none⟩) (show w.heap.size < w.heap.size + 1 by omega)).trans e1,
    ⟨(h3.cell (p := ⟨w.heap.size + 1, 0, none⟩) (show w.heap.size + 1 < w.heap.size + 2 by omega)).trans e2, fr b2'⟩, ⟨e3, fr b3⟩, s3⟩
set_option maxRecDepth 100000 in
set_option maxHeartbeats 16000000 in
/-- Copy of networks -/
theorem rcopyN {v : Value} {xs : List PPkt} {w : World} (hv : IsNet w v xs) (hn : xs.length ≤ 1000000) (hb : ∀ x ∈ xs, x.bytes.length ≤ 1000000) : Calls Try.prog 8 #[v] w (MadeN (fun w b => w.heap.size ≤ b) w xs) := by
  obtain ⟨v, rfl, hv⟩ := hv
  obtain ⟨a, cap, rfl, g1, g2, -, h⟩ := hv.parts
  have HBL : Hid (∀ k, k < xs.length → (pk xs k).bytes.length ≤ 1000000) := Lib.hid (fun k hk => hb _ (by unfold pk; simp [List.getD, List.getElem?_eq_getElem hk]))
  have PS : Hid (∀ k, k < xs.length → xs.take (k + 1) = xs.take k ++ [pk xs k]) := Lib.hid (fun k hk => pk_take hk)
  have PL : Hid (∀ k, (xs.take k).length ≤ xs.length) := Lib.hid (fun k => by rw [List.length_take]; omega)
  have PN : Hid (xs.take xs.length = xs) := Lib.hid List.take_length
  obtain ⟨n, hN⟩ : ∃ n, xs.length = n := ⟨_, rfl⟩
  rw [hN] at h g1 hn HBL PS PL PN ⊢
  have HS := Lib.hid h
  have LN := Lib.hid hN
  have P0 : Hid (xs.take 0 = []) := Lib.hid rfl
  obtain ⟨P, hP⟩ : ∃ P : Nat → List PPkt, P = fun k => xs.take k := ⟨_, rfl⟩
  replace PS : Hid (∀ k, k < n → P (k + 1) = P k ++ [pk xs k]) := Lib.hid (by rw [hP]; exact PS.out)
  replace PL : Hid (∀ k, (P k).length ≤ n) := Lib.hid (by rw [hP]; exact PL.out)
  replace PN : Hid (P n = xs) := Lib.hid (by rw [hP]; exact PN.out)
  replace P0 : Hid (P 0 = []) := Lib.hid (by rw [hP]; exact P0.out)
  have T3 := Lib.hid (three_nets w a n cap)
  clear hv h hN hb hP
  go_enter Try.func8, Try.ntmps8
  go_upto_region 2 with fail
  generalize (((w.alloc (.cells #[.slice a n cap] 24)).alloc (.cells #[.slice none 0 0] 24)).alloc (.cells #[.slice none 0 0] 24)) = w1 at *
  obtain ⟨G, c0, ⟨d0, d1⟩, ⟨e0, e1⟩, hz⟩ := T3.out
  have GH := Lib.hid G
  have ZH := Lib.hid hz
  clear G hz T3
  go_wp2_with fail
  go_loopw [4] (fun i wr => ∃ (k : Nat) (a2 : Option Addr) (m2 c2 : Nat), k ≤ n ∧ i = .int .i64 k ∧ Below w.heap.size w wr ∧ w.heap.size + 3 ≤ wr.heap.size ∧ wr.cell? ⟨w.heap.size, 0, none⟩ = some (.slice a n cap) ∧
      (wr.cell? ⟨w.heap.size + 1, 0, none⟩ = some (.slice none 0 0) ∧ wr.frozen? ⟨w.heap.size + 1, 0, none⟩ = false) ∧
      (wr.cell? ⟨w.heap.size + 1 + 1, 0, none⟩ = some (.slice a2 m2 c2) ∧ wr.frozen? ⟨w.heap.size + 1 + 1, 0, none⟩ = false) ∧ OwnJ (fun b => w.heap.size + 3 ≤ b) LPkt (w.heap.size + 3) wr (.slice a2 m2 c2) (P k)) (fun i _ => n - (intOf i).toNat)
  case atStart => exact ⟨0, none, 0, 0, Nat.zero_le _, rfl, GH.out, Nat.le_of_eq ZH.out.symm, c0, ⟨d0, d1⟩, ⟨e0, e1⟩, by rw [P0.out]; exact OwnJ.nil _ _ _⟩
  clear c0 d0 d1 e0 e1
  case round =>
    obtain ⟨k, a2, m2, c2, hk, rfl, hB, hZ, c0, ⟨d0, d1⟩, ⟨e0, e1⟩, hO⟩ := hrel
    have HB := Lib.hid hB
    have HZ := Lib.hid hZ
    have HO := Lib.hid hO
    have D0 := Lib.hid d0
    have D1 := Lib.hid d1
    have E0 := Lib.hid e0
    have E1 := Lib.hid e1
    have C0 := Lib.hid c0
    clear hB hO hZ
    by_cases hlt : k < n
    · have PK := Lib.hid (PS.out k hlt)
      have LK := Lib.hid (PL.out k)
      have HBK := Lib.hid (HBL.out k hlt)
      obtain ⟨lb, lo, rfl, hc⟩ := pkts_at HS.out (by omega)
      obtain ⟨da, dn, dc, hW⟩ := hc k hlt
      obtain ⟨-, -, hby, -⟩ := hW wr HB.out
      have KC : Hid (∀ u, Below wr.heap.size wr u → Calls Try.prog 16 #[.slice da dn dc] u (By.Made u (pk xs k).bytes)) := Lib.hid (fun u hb => By.copy_any (by_of (hby.below hb)) HBK.out)
      have XW : Hid (∀ u, Below w.heap.size wr u → u.cell? ⟨lb, lo + k * 3, none⟩ = some (.int .i64 (pk xs k).frm) ∧ u.cell? ⟨lb, lo + k * 3 + 1, none⟩ = some (.int .i64 (pk xs k).to) ∧ u.cell? ⟨lb, lo + k * 3 + 2, none⟩ = some (.slice da dn dc)) := Lib.hid (fun u hb => (hW u (HB.out.trans hb)).1)
      have k1 : (k : Int) < n := by omega
      have k2 : (n : Int) ≤ cap := by omega
      have k3 : (cap : Int) ≤ 9223372036854775807 := by omega
      clear hc hW hby d0 d1
      generalize pk xs k = x at *
      have KF : Hid (∀ u, Below w.heap.size wr u → u.cell? ⟨w.heap.size, 0, none⟩ = some (.slice (some ⟨lb, lo, none⟩) n cap) → Below w.heap.size wr u ∧ u.cell? ⟨w.heap.size, 0, none⟩ = some (.slice (some ⟨lb, lo, none⟩) n cap) ∧ (u.cell? ⟨lb, lo + k * 3, none⟩ = some (.int .i64 x.frm) ∧ u.cell? ⟨lb, lo + k * 3 + 1, none⟩ = some (.int .i64 x.to) ∧ u.cell? ⟨lb, lo + k * 3 + 2, none⟩ = some (.slice da dn dc))) := Lib.hid (fun u hb h => ⟨hb, h, XW.out u hb⟩)
      have KE : Hid (∀ u, Below wr.heap.size wr u → Below w.heap.size wr u ∧ u.cell? ⟨w.heap.size, 0, none⟩ = some (.slice (some ⟨lb, lo, none⟩) n cap) ∧ (u.cell? ⟨lb, lo + k * 3, none⟩ = some (.int .i64 x.frm) ∧ u.cell? ⟨lb, lo + k * 3 + 1, none⟩ = some (.int .i64 x.to) ∧ u.cell? ⟨lb, lo + k * 3 + 2, none⟩ = some (.slice da dn dc))) := Lib.hid (fun u hb => KF.out u (hb.mono HB.out.size) ((hb.cell (p := ⟨w.heap.size, 0, none⟩) (show w.heap.size < _ by have := HZ.out; omega)).trans C0.out))
      go_upto_region 5 with fail
      clear c0 e0 e1
      refine wp_region_held_drew (S := fun u' => Below w.heap.size wr u' ∧ u'.cell? ⟨w.heap.size, 0, none⟩ = some (.slice (some ⟨lb, lo, none⟩) n cap) ∧ (u'.cell? ⟨lb, lo + k * 3, none⟩ = some (.int .i64 x.frm) ∧ u'.cell? ⟨lb, lo + k * 3 + 1, none⟩ = some (.int .i64 x.to) ∧ u'.cell? ⟨lb, lo + k * 3 + 2, none⟩ = some (.slice da dn dc))) (by kernel_rfl) ?_ (fun hHeld => ?_)
      · (exact KE.out _ (Below.refl _ _).drew)
      simp only [List.size_toArray, List.length_cons, List.length_nil, Nat.zero_add, Nat.reduceAdd]
      refine wpAnyH_take (i := 0) (v := ?_) rfl (by kernel_rfl) (by kernel_rfl) (by kernel_rfl) (fun _ _ _ h => h) (Or.inl ⟨by rfl, ?_⟩) hHeld ?_
      rotate_left
      · (intro w' hSw; (try dsimp only at hSw); go_simp; try with_reducible rfl)
      simp only [List.getElem_toArray, List.getElem_cons_zero, Act.put, List.setIfInBounds_toArray, List.set_cons_zero, List.set_cons_succ]
      refine wpAnyH_take (i := 2) (v := ?_) rfl (by kernel_rfl) (by kernel_rfl) (by kernel_rfl) (fun _ _ _ h => h) (Or.inl ⟨by rfl, ?_⟩) hHeld ?_
      rotate_left
      · (intro w' hSw; (try dsimp only at hSw); go_simp; try with_reducible rfl)
      simp only [List.getElem_toArray, List.getElem_cons_zero, List.getElem_cons_succ, Act.put, List.setIfInBounds_toArray, List.set_cons_zero, List.set_cons_succ]
      refine wpAnyH_take (i := 3) (v := ?_) rfl (by kernel_rfl) (by kernel_rfl) (by kernel_rfl) (fun _ _ _ h => h) (Or.inl ⟨by rfl, ?_⟩) hHeld ?_
      rotate_left
      · (intro w' hSw; (try dsimp only at hSw); go_simp; try with_reducible rfl)
      simp only [List.getElem_toArray, List.getElem_cons_zero, List.getElem_cons_succ, Act.put, List.setIfInBounds_toArray, List.set_cons_zero, List.set_cons_succ]
      refine wpAnyH_take (i := 4) (v := ?_) rfl (by kernel_rfl) (by kernel_rfl) (by kernel_rfl) (fun _ _ _ h => h) (Or.inl ⟨by rfl, ?_⟩) hHeld ?_
      rotate_left
      · (intro w' hSw; (try dsimp only at hSw); go_simp; try with_reducible rfl)
      simp only [List.getElem_toArray, List.getElem_cons_zero, List.getElem_cons_succ, Act.put, List.setIfInBounds_toArray, List.set_cons_zero, List.set_cons_succ]
      refine wpAnyH_take (i := 5) (v := ?_) rfl (by kernel_rfl) (by kernel_rfl) (by kernel_rfl) (fun _ _ _ h => h) (Or.inl ⟨by rfl, ?_⟩) hHeld ?_
      rotate_left
      · (intro w' hSw; (try dsimp only at hSw); go_simp; try with_reducible rfl)
      simp only [List.getElem_toArray, List.getElem_cons_zero, List.getElem_cons_succ, Act.put, List.setIfInBounds_toArray, List.set_cons_zero, List.set_cons_succ]
      refine wpAnyH_take (i := 6) (v := ?_) rfl (by kernel_rfl) (by kernel_rfl) (by kernel_rfl) (fun _ _ _ h => h) (Or.inl ⟨by rfl, ?_⟩) hHeld ?_
      rotate_left
      · (intro w' hSw; (try dsimp only at hSw); go_simp; try with_reducible rfl)
      simp only [List.getElem_toArray, List.getElem_cons_zero, List.getElem_cons_succ, Act.put, List.setIfInBounds_toArray, List.set_cons_zero, List.set_cons_succ]
      refine wpAnyH_take (i := 7) (v := ?_) rfl (by kernel_rfl) (by kernel_rfl) (by kernel_rfl) (fun _ _ _ h => h) (Or.inl ⟨by rfl, ?_⟩) hHeld ?_
      rotate_left
      · (intro w' hSw; (try dsimp only at hSw); go_simp; try with_reducible rfl)
      simp only [List.getElem_toArray, List.getElem_cons_zero, List.getElem_cons_succ, Act.put, List.setIfInBounds_toArray, List.set_cons_zero, List.set_cons_succ]
      refine wpAnyH_take (i := 8) (v := ?_) rfl (by kernel_rfl) (by kernel_rfl) (by kernel_rfl) (fun _ _ _ h => h) (Or.inl ⟨by rfl, ?_⟩) hHeld ?_
      rotate_left
      · (intro w' hSw; (try dsimp only at hSw); go_simp; try with_reducible rfl)
      simp only [List.getElem_toArray, List.getElem_cons_zero, List.getElem_cons_succ, Act.put, List.setIfInBounds_toArray, List.set_cons_zero, List.set_cons_succ]
      refine wpAnyH_take (i := 9) (v := ?_) rfl (by kernel_rfl) (by kernel_rfl) (by kernel_rfl) (fun _ _ _ h => h) (Or.inl ⟨by rfl, ?_⟩) hHeld ?_
      rotate_left
      · (intro w' hSw; (try dsimp only at hSw); go_simp; try with_reducible rfl)
      simp only [List.getElem_toArray, List.getElem_cons_zero, List.getElem_cons_succ, Act.put, List.setIfInBounds_toArray, List.set_cons_zero, List.set_cons_succ]
      refine wpAnyH_take (i := 10) (v := ?_) rfl (by kernel_rfl) (by kernel_rfl) (by kernel_rfl) (fun _ _ _ h => h) (Or.inl ⟨by rfl, ?_⟩) hHeld ?_
      rotate_left
      · (intro w' hSw; (try dsimp only at hSw); go_simp; try with_reducible rfl)
      simp only [List.getElem_toArray, List.getElem_cons_zero, List.getElem_cons_succ, Act.put, List.setIfInBounds_toArray, List.set_cons_zero, List.set_cons_succ]
      refine wpAnyH_take (i := 11) (v := ?_) rfl (by kernel_rfl) (by kernel_rfl) (by kernel_rfl) (fun _ _ _ h => h) (Or.inl ⟨by rfl, ?_⟩) hHeld ?_
      rotate_left
      · (intro w' hSw; (try dsimp only at hSw); go_simp; try with_reducible rfl)
      simp only [List.getElem_toArray, List.getElem_cons_zero, List.getElem_cons_succ, Act.put, List.setIfInBounds_toArray, List.set_cons_zero, List.set_cons_succ]
      refine wpAnyH_take (i := 12) (v := ?_) rfl (by kernel_rfl) (by kernel_rfl) (by kernel_rfl) (fun _ _ _ h => h) (Or.inl ⟨by rfl, ?_⟩) hHeld ?_
      rotate_left
      · (intro w' hSw; (try dsimp only at hSw); go_simp; try with_reducible rfl)
      simp only [List.getElem_toArray, List.getElem_cons_zero, List.getElem_cons_succ, Act.put, List.setIfInBounds_toArray, List.set_cons_zero, List.set_cons_succ]
      refine wpAnyH_take (i := 13) (v := ?_) rfl (by kernel_rfl) (by kernel_rfl) (by kernel_rfl) (fun _ _ _ h => h) (Or.inl ⟨by rfl, ?_⟩) hHeld ?_
      rotate_left
      · (intro w' hSw; (try dsimp only at hSw); go_simp; try with_reducible rfl)
      simp only [List.getElem_toArray, List.getElem_cons_zero, List.getElem_cons_succ, Act.put, List.setIfInBounds_toArray, List.set_cons_zero, List.set_cons_succ]
      refine wpAnyH_take (i := 14) (v := ?_) rfl (by kernel_rfl) (by kernel_rfl) (by kernel_rfl) (fun _ _ _ h => h) (Or.inl ⟨by rfl, ?_⟩) hHeld ?_
      rotate_left
      · (intro w' hSw; (try dsimp only at hSw); go_simp; try with_reducible rfl)
      simp only [List.getElem_toArray, List.getElem_cons_zero, List.getElem_cons_succ, Act.put, List.setIfInBounds_toArray, List.set_cons_zero, List.set_cons_succ]
      refine wpAnyH_take (i := 15) (v := ?_) rfl (by kernel_rfl) (by kernel_rfl) (by kernel_rfl) (fun _ _ _ h => h) (Or.inl ⟨by rfl, ?_⟩) hHeld ?_
      rotate_left
      · (intro w' hSw; (try dsimp only at hSw); go_simp; try with_reducible rfl)
      simp only [List.getElem_toArray, List.getElem_cons_zero, List.getElem_cons_succ, Act.put, List.setIfInBounds_toArray, List.set_cons_zero, List.set_cons_succ]
      refine wpAnyH_take (i := 16) (v := ?_) rfl (by kernel_rfl) (by kernel_rfl) (by kernel_rfl) (fun _ _ _ h => h) (Or.inl ⟨by rfl, ?_⟩) hHeld ?_
      rotate_left
      · (intro w' hSw; (try dsimp only at hSw); go_simp; try with_reducible rfl)
      simp only [List.getElem_toArray, List.getElem_cons_zero, List.getElem_cons_succ, Act.put, List.setIfInBounds_toArray, List.set_cons_zero, List.set_cons_succ]
      refine wpAnyH_take (i := 17) (v := ?_) rfl (by kernel_rfl) (by kernel_rfl) (by kernel_rfl) (fun _ _ _ h => h) (Or.inl ⟨by rfl, ?_⟩) hHeld ?_
      rotate_left
      · (intro w' hSw; (try dsimp only at hSw); go_simp; try with_reducible rfl)
      simp only [List.getElem_toArray, List.getElem_cons_zero, List.getElem_cons_succ, Act.put, List.setIfInBounds_toArray, List.set_cons_zero, List.set_cons_succ]
      refine wpAnyH_take (i := 18) (v := ?_) rfl (by kernel_rfl) (by kernel_rfl) (by kernel_rfl) (fun _ _ _ h => h) (Or.inl ⟨by rfl, ?_⟩) hHeld ?_
      rotate_left
      · (intro w' hSw; (try dsimp only at hSw); go_simp; try with_reducible rfl)
      simp only [List.getElem_toArray, List.getElem_cons_zero, List.getElem_cons_succ, Act.put, List.setIfInBounds_toArray, List.set_cons_zero, List.set_cons_succ]
      refine wpAnyH_take (i := 19) (v := ?_) rfl (by kernel_rfl) (by kernel_rfl) (by kernel_rfl) (fun _ _ _ h => h) (Or.inl ⟨by rfl, ?_⟩) hHeld ?_
      rotate_left
      · (intro w' hSw; (try dsimp only at hSw); go_simp; try with_reducible rfl)
      simp only [List.getElem_toArray, List.getElem_cons_zero, List.getElem_cons_succ, Act.put, List.setIfInBounds_toArray, List.set_cons_zero, List.set_cons_succ]
      refine wpAnyH_ready (rs := [1, 20]) (by kernel_rfl) (by simp) ?_
      refine AllReadyH.cons rfl (fun K hK => ?_) (AllReadyH.cons rfl (fun K hK => ?_) AllReadyH.nil)
      · have yy : wr.drew.cell? ⟨w.heap.size + 1 + 1, 0, none⟩ = some (.slice a2 m2 c2) := E0.out
        go_simp
        refine hK.out _ _ (KE.out _ (Below.refl _ _).drew) (fun hHeld => ?_)
        clear hK K yy
        refine wpAnyH_ready (rs := [20]) (by kernel_rfl) (by simp) ?_
        refine AllReadyH.cons rfl (fun K hK => ?_) AllReadyH.nil
        go_simp
        refine (KC.out _ (Below.refl _ _).drew).mono ?_
        rintro e u1 ⟨v1, rfl, ho1, hb⟩
        obtain ⟨va, vn, vc, rfl⟩ : ∃ a n c, v1 = .slice a n c := (by obtain ⟨a, c, h, -⟩ := ho1.parts; exact ⟨a, _, c, h⟩)
        have A1 := Lib.hid (((Below.refl wr.heap.size wr).drew).trans hb)
        have N1 := Lib.hid ((ownB_of ho1).new flat_byte)
        have Y1 : Hid (u1.cell? ⟨w.heap.size + 1 + 1, 0, none⟩ = some (.slice a2 m2 c2)) := Lib.hid ((A1.out.cell (p := ⟨w.heap.size + 1 + 1, 0, none⟩) (show w.heap.size + 1 + 1 < _ by have := HZ.out; omega)).trans E0.out)
        have A2 : Hid (Below wr.heap.size wr (u1.alloc (.cells #[.int .i64 x.frm, .int .i64 x.to, .slice va vn vc] 27))) := Lib.hid (A1.out.alloc A1.out.size _)
        have Y2 : Hid ((u1.alloc (.cells #[.int .i64 x.frm, .int .i64 x.to, .slice va vn vc] 27)).cell? ⟨w.heap.size + 1 + 1, 0, none⟩ = some (.slice a2 m2 c2)) := Lib.hid ((A2.out.cell (p := ⟨w.heap.size + 1 + 1, 0, none⟩) (show w.heap.size + 1 + 1 < _ by have := HZ.out; omega)).trans E0.out)
        refine hK.out _ _ (KE.out _ A1.out) (fun hHeld => ?_)
        clear hK K hb ho1
        refine wpAnyH_take (i := 21) (v := ?_) rfl (by kernel_rfl) (by kernel_rfl) (by kernel_rfl) (fun _ _ _ h => h) (Or.inl ⟨by rfl, ?_⟩) hHeld ?_
        rotate_left
        · (intro w' hSw; (try dsimp only at hSw); go_simp; try with_reducible rfl)
        simp only [List.getElem_toArray, List.getElem_cons_zero, List.getElem_cons_succ, Act.put, List.setIfInBounds_toArray, List.set_cons_zero, List.set_cons_succ]
        refine wpAnyH_ready (rs := [22]) (by kernel_rfl) (by simp) ?_
        refine AllReadyH.cons rfl (fun K hK => ?_) AllReadyH.nil
        go_simp
        refine hK.out _ _ (KE.out _ A2.out) (fun hHeld => ?_)
        clear hK K
        refine wpAnyH_ready (rs := [23]) (by kernel_rfl) (by simp) ?_
        refine AllReadyH.cons rfl (fun K hK => ?_) AllReadyH.nil
        have A1_ := A1.out
        have hZ_ := HZ.out
        have n1_ : wr.heap.size ≤ u1.heap.size := A1.out.size
        refine step_append_elJ (fun b => w.heap.size + 3 ≤ b) LPkt (by rfl) (.tmp 13) (.tmp 34) (by rfl) (w.heap.size + 3) (by rfl) (HO.out.below A2.out (Nat.le_refl _)) (by rfl) (one_pkt (x := x) (N := fun b => w.heap.size + 3 ≤ b ∧ b < u1.heap.size + 1 ∧ Value.ownBlock (.slice a2 m2 c2) ≠ some b) N1.out (fun b hb => hb.2) (fun b hb => ⟨by have h1 : wr.heap.size ≤ b := hb.1; omega, by have h1 : b < u1.heap.size := hb.2; omega, fun e => by have := (HO.out.lt b e).2; have h1 : wr.heap.size ≤ b := hb.1; omega⟩) ⟨by omega, by omega, fun e => by have := (HO.out.lt _ e).2; omega⟩) (fun vs x h => LPkt.mono h fun b hb => ⟨hb.1, by simp; exact hb.2.1, hb.2.2⟩) (by have := LK.out; simp; omega) (by simp; omega) ?_
        intro v2 u2 ho2 hg2
        clear A1_ n1_
        have B2 : Hid (Below (w.heap.size + 3) wr u2) := Lib.hid ((A2.out.mono hZ_).grown hg2 (by have := A2.out.size; omega) (fun j hj => (HO.out.lt j hj).1))
        have O2 := Lib.hid ho2
        obtain ⟨a3, c3, rfl, -, -, -, -⟩ := ho2.own.parts
        have z1 := (B2.out.cell (p := ⟨w.heap.size + 1 + 1, 0, none⟩) (show w.heap.size + 1 + 1 < _ by omega)).trans E0.out
        have z2 := (B2.out.frozen (p := ⟨w.heap.size + 1 + 1, 0, none⟩) (show w.heap.size + 1 + 1 < _ by omega)).trans E1.out
        clear hZ_ ho2 hg2
        refine hK.out _ _ (KF.out _ (B2.out.mono (by omega)) ((B2.out.cell (p := ⟨w.heap.size, 0, none⟩) (show w.heap.size < _ by omega)).trans C0.out)) (fun hHeld => ?_)
        clear hK K
        refine wpAnyH_take (i := 24) (v := ?_) rfl (by kernel_rfl) (by kernel_rfl) (by kernel_rfl) (fun _ _ _ h => h) (Or.inl ⟨by rfl, ?_⟩) hHeld ?_
        rotate_left
        · (intro w' hSw; (try dsimp only at hSw); go_simp; try with_reducible rfl)
        simp only [List.getElem_toArray, List.getElem_cons_zero, List.getElem_cons_succ, Act.put, List.setIfInBounds_toArray, List.set_cons_zero, List.set_cons_succ]
        refine wpAnyH_ready (rs := [25]) (by kernel_rfl) (by simp) ?_
        refine AllReadyH.cons rfl (fun K hK => ?_) AllReadyH.nil
        go_simp
        refine hK.out _ _ (KF.out _ ((B2.out.mono (by omega)).setCell (by show w.heap.size ≤ w.heap.size + 1 + 1; omega) _) ((World.cell?_setCell_other _ _ _ _ (by simp)).trans ((B2.out.cell (p := ⟨w.heap.size, 0, none⟩) (show w.heap.size < _ by omega)).trans C0.out))) (fun hHeld => ?_)
        clear hK K
        refine wpAnyH_done (by kernel_rfl) ?_ _
        clear hHeld
        have C : ∀ z a v, wr.cell? a = some v → a.block < w.heap.size + 3 → (⟨w.heap.size + 1 + 1, 0, none⟩ : Addr) ≠ a → (u2.setCell ⟨w.heap.size + 1 + 1, 0, none⟩ z).cell? a = some v := fun z a v h hb ne => (World.cell?_setCell_other _ _ _ _ ne).trans ((B2.out.cell hb).trans h)
        have F : ∀ z a, wr.frozen? a = false → a.block < w.heap.size + 3 → (u2.setCell ⟨w.heap.size + 1 + 1, 0, none⟩ z).frozen? a = false := fun z a h hb => (World.frozen?_setCell _ _ _ _).trans ((B2.out.frozen hb).trans h)
        have EQ : Hid (∀ z, (u2.setCell ⟨w.heap.size + 1 + 1, 0, none⟩ z).cell? ⟨w.heap.size + 1 + 1, 0, none⟩ = some z) := Lib.hid (fun z => World.cell?_setCell_same u2 ⟨w.heap.size + 1 + 1, 0, none⟩ z z1)
        have CF := Lib.hid (And.intro C F)
        clear C F z1 z2 Y1 Y2 A1 A2 N1
        go_wp2_with fail
        go_roundw
        case rel =>
          obtain ⟨C, F⟩ := CF.out
          refine ⟨k + 1, a3, _, c3, by omega, by go_num, (HB.out.trans (B2.out.mono (by omega))).setCell (by show w.heap.size ≤ w.heap.size + 1 + 1; omega) _, by have := B2.out.size; have := HZ.out; simp [World.setCell]; omega, C _ _ _ C0.out (by simp) (by simp), ⟨C _ _ _ D0.out (by simp) (by simp), F _ _ D1.out (by simp)⟩, ⟨EQ.out _, F _ _ E1.out (by simp)⟩, ?_⟩
          rw [PK.out]
          have h := O2.out
          rw [show (P k ++ [x]).length = (P k).length + 1 by simp] at h
          exact h.kept (by simp [World.setCell]) fun b hb h => Below.heap_setCell _ _ _ _ (by have h2 : w.heap.size + 3 ≤ b := h.elim id id; show b ≠ w.heap.size + 1 + 1; omega)
        case measure => simp [intOf]; omega
      · go_simp
        refine (KC.out _ (Below.refl _ _).drew).mono ?_
        rintro e u1 ⟨v1, rfl, ho1, hb⟩
        obtain ⟨va, vn, vc, rfl⟩ : ∃ a n c, v1 = .slice a n c := (by obtain ⟨a, c, h, -⟩ := ho1.parts; exact ⟨a, _, c, h⟩)
        have A1 := Lib.hid (((Below.refl wr.heap.size wr).drew).trans hb)
        have N1 := Lib.hid ((ownB_of ho1).new flat_byte)
        have Y1 : Hid (u1.cell? ⟨w.heap.size + 1 + 1, 0, none⟩ = some (.slice a2 m2 c2)) := Lib.hid ((A1.out.cell (p := ⟨w.heap.size + 1 + 1, 0, none⟩) (show w.heap.size + 1 + 1 < _ by have := HZ.out; omega)).trans E0.out)
        have A2 : Hid (Below wr.heap.size wr (u1.alloc (.cells #[.int .i64 x.frm, .int .i64 x.to, .slice va vn vc] 27))) := Lib.hid (A1.out.alloc A1.out.size _)
        have Y2 : Hid ((u1.alloc (.cells #[.int .i64 x.frm, .int .i64 x.to, .slice va vn vc] 27)).cell? ⟨w.heap.size + 1 + 1, 0, none⟩ = some (.slice a2 m2 c2)) := Lib.hid ((A2.out.cell (p := ⟨w.heap.size + 1 + 1, 0, none⟩) (show w.heap.size + 1 + 1 < _ by have := HZ.out; omega)).trans E0.out)
        refine hK.out _ _ (KE.out _ A1.out) (fun hHeld => ?_)
        clear hK K hb ho1
        refine wpAnyH_take (i := 21) (v := ?_) rfl (by kernel_rfl) (by kernel_rfl) (by kernel_rfl) (fun _ _ _ h => h) (Or.inl ⟨by rfl, ?_⟩) hHeld ?_
        rotate_left
        · (intro w' hSw; (try dsimp only at hSw); go_simp; try with_reducible rfl)
        simp only [List.getElem_toArray, List.getElem_cons_zero, List.getElem_cons_succ, Act.put, List.setIfInBounds_toArray, List.set_cons_zero, List.set_cons_succ]
        refine wpAnyH_ready (rs := [1, 22]) (by kernel_rfl) (by simp) ?_
        refine AllReadyH.cons rfl (fun K hK => ?_) (AllReadyH.cons rfl (fun K hK => ?_) AllReadyH.nil)
        · have yy : u1.cell? ⟨w.heap.size + 1 + 1, 0, none⟩ = some (.slice a2 m2 c2) := Y1.out
          go_simp
          refine hK.out _ _ (KE.out _ A1.out) (fun hHeld => ?_)
          clear hK K yy
          refine wpAnyH_ready (rs := [22]) (by kernel_rfl) (by simp) ?_
          refine AllReadyH.cons rfl (fun K hK => ?_) AllReadyH.nil
          go_simp
          refine hK.out _ _ (KE.out _ A2.out) (fun hHeld => ?_)
          clear hK K
          refine wpAnyH_ready (rs := [23]) (by kernel_rfl) (by simp) ?_
          refine AllReadyH.cons rfl (fun K hK => ?_) AllReadyH.nil
          have A1_ := A1.out
          have hZ_ := HZ.out
          have n1_ : wr.heap.size ≤ u1.heap.size := A1.out.size
          refine step_append_elJ (fun b => w.heap.size + 3 ≤ b) LPkt (by rfl) (.tmp 13) (.tmp 34) (by rfl) (w.heap.size + 3) (by rfl) (HO.out.below A2.out (Nat.le_refl _)) (by rfl) (one_pkt (x := x) (N := fun b => w.heap.size + 3 ≤ b ∧ b < u1.heap.size + 1 ∧ Value.ownBlock (.slice a2 m2 c2) ≠ some b) N1.out (fun b hb => hb.2) (fun b hb => ⟨by have h1 : wr.heap.size ≤ b := hb.1; omega, by have h1 : b < u1.heap.size := hb.2; omega, fun e => by have := (HO.out.lt b e).2; have h1 : wr.heap.size ≤ b := hb.1; omega⟩) ⟨by omega, by omega, fun e => by have := (HO.out.lt _ e).2; omega⟩) (fun vs x h => LPkt.mono h fun b hb => ⟨hb.1, by simp; exact hb.2.1, hb.2.2⟩) (by have := LK.out; simp; omega) (by simp; omega) ?_
          intro v2 u2 ho2 hg2
          clear A1_ n1_
          have B2 : Hid (Below (w.heap.size + 3) wr u2) := Lib.hid ((A2.out.mono hZ_).grown hg2 (by have := A2.out.size; omega) (fun j hj => (HO.out.lt j hj).1))
          have O2 := Lib.hid ho2
          obtain ⟨a3, c3, rfl, -, -, -, -⟩ := ho2.own.parts
          have z1 := (B2.out.cell (p := ⟨w.heap.size + 1 + 1, 0, none⟩) (show w.heap.size + 1 + 1 < _ by omega)).trans E0.out
          have z2 := (B2.out.frozen (p := ⟨w.heap.size + 1 + 1, 0, none⟩) (show w.heap.size + 1 + 1 < _ by omega)).trans E1.out
          clear hZ_ ho2 hg2
          refine hK.out _ _ (KF.out _ (B2.out.mono (by omega)) ((B2.out.cell (p := ⟨w.heap.size, 0, none⟩) (show w.heap.size < _ by omega)).trans C0.out)) (fun hHeld => ?_)
          clear hK K
          refine wpAnyH_take (i := 24) (v := ?_) rfl (by kernel_rfl) (by kernel_rfl) (by kernel_rfl) (fun _ _ _ h => h) (Or.inl ⟨by rfl, ?_⟩) hHeld ?_
          rotate_left
          · (intro w' hSw; (try dsimp only at hSw); go_simp; try with_reducible rfl)
          simp only [List.getElem_toArray, List.getElem_cons_zero, List.getElem_cons_succ, Act.put, List.setIfInBounds_toArray, List.set_cons_zero, List.set_cons_succ]
          refine wpAnyH_ready (rs := [25]) (by kernel_rfl) (by simp) ?_
          refine AllReadyH.cons rfl (fun K hK => ?_) AllReadyH.nil
          go_simp
          refine hK.out _ _ (KF.out _ ((B2.out.mono (by omega)).setCell (by show w.heap.size ≤ w.heap.size + 1 + 1; omega) _) ((World.cell?_setCell_other _ _ _ _ (by simp)).trans ((B2.out.cell (p := ⟨w.heap.size, 0, none⟩) (show w.heap.size < _ by omega)).trans C0.out))) (fun hHeld => ?_)
          clear hK K
          refine wpAnyH_done (by kernel_rfl) ?_ _
          clear hHeld
          have C : ∀ z a v, wr.cell? a = some v → a.block < w.heap.size + 3 → (⟨w.heap.size + 1 + 1, 0, none⟩ : Addr) ≠ a → (u2.setCell ⟨w.heap.size + 1 + 1, 0, none⟩ z).cell? a = some v := fun z a v h hb ne => (World.cell?_setCell_other _ _ _ _ ne).trans ((B2.out.cell hb).trans h)
          have F : ∀ z a, wr.frozen? a = false → a.block < w.heap.size + 3 → (u2.setCell ⟨w.heap.size + 1 + 1, 0, none⟩ z).frozen? a = false := fun z a h hb => (World.frozen?_setCell _ _ _ _).trans ((B2.out.frozen hb).trans h)
          have EQ : Hid (∀ z, (u2.setCell ⟨w.heap.size + 1 + 1, 0, none⟩ z).cell? ⟨w.heap.size + 1 + 1, 0, none⟩ = some z) := Lib.hid (fun z => World.cell?_setCell_same u2 ⟨w.heap.size + 1 + 1, 0, none⟩ z z1)
          have CF := Lib.hid (And.intro C F)
          clear C F z1 z2 Y1 Y2 A1 A2 N1
          go_wp2_with fail
          go_roundw
          case rel =>
            obtain ⟨C, F⟩ := CF.out
            refine ⟨k + 1, a3, _, c3, by omega, by go_num, (HB.out.trans (B2.out.mono (by omega))).setCell (by show w.heap.size ≤ w.heap.size + 1 + 1; omega) _, by have := B2.out.size; have := HZ.out; simp [World.setCell]; omega, C _ _ _ C0.out (by simp) (by simp), ⟨C _ _ _ D0.out (by simp) (by simp), F _ _ D1.out (by simp)⟩, ⟨EQ.out _, F _ _ E1.out (by simp)⟩, ?_⟩
            rw [PK.out]
            have h := O2.out
            rw [show (P k ++ [x]).length = (P k).length + 1 by simp] at h
            exact h.kept (by simp [World.setCell]) fun b hb h => Below.heap_setCell _ _ _ _ (by have h2 : w.heap.size + 3 ≤ b := h.elim id id; show b ≠ w.heap.size + 1 + 1; omega)
          case measure => simp [intOf]; omega
        · go_simp
          refine hK.out _ _ (KE.out _ A2.out) (fun hHeld => ?_)
          clear hK K
          refine wpAnyH_ready (rs := [1]) (by kernel_rfl) (by simp) ?_
          refine AllReadyH.cons rfl (fun K hK => ?_) AllReadyH.nil
          have yy : (u1.alloc (.cells #[.int .i64 x.frm, .int .i64 x.to, .slice va vn vc] 27)).cell? ⟨w.heap.size + 1 + 1, 0, none⟩ = some (.slice a2 m2 c2) := Y2.out
          go_simp
          refine hK.out _ _ (KE.out _ A2.out) (fun hHeld => ?_)
          clear hK K yy
          refine wpAnyH_ready (rs := [23]) (by kernel_rfl) (by simp) ?_
          refine AllReadyH.cons rfl (fun K hK => ?_) AllReadyH.nil
          have A1_ := A1.out
          have hZ_ := HZ.out
          have n1_ : wr.heap.size ≤ u1.heap.size := A1.out.size
          refine step_append_elJ (fun b => w.heap.size + 3 ≤ b) LPkt (by rfl) (.tmp 13) (.tmp 34) (by rfl) (w.heap.size + 3) (by rfl) (HO.out.below A2.out (Nat.le_refl _)) (by rfl) (one_pkt (x := x) (N := fun b => w.heap.size + 3 ≤ b ∧ b < u1.heap.size + 1 ∧ Value.ownBlock (.slice a2 m2 c2) ≠ some b) N1.out (fun b hb => hb.2) (fun b hb => ⟨by have h1 : wr.heap.size ≤ b := hb.1; omega, by have h1 : b < u1.heap.size := hb.2; omega, fun e => by have := (HO.out.lt b e).2; have h1 : wr.heap.size ≤ b := hb.1; omega⟩) ⟨by omega, by omega, fun e => by have := (HO.out.lt _ e).2; omega⟩) (fun vs x h => LPkt.mono h fun b hb => ⟨hb.1, by simp; exact hb.2.1, hb.2.2⟩) (by have := LK.out; simp; omega) (by simp; omega) ?_
          intro v2 u2 ho2 hg2
          clear A1_ n1_
          have B2 : Hid (Below (w.heap.size + 3) wr u2) := Lib.hid ((A2.out.mono hZ_).grown hg2 (by have := A2.out.size; omega) (fun j hj => (HO.out.lt j hj).1))
          have O2 := Lib.hid ho2
          obtain ⟨a3, c3, rfl, -, -, -, -⟩ := ho2.own.parts
          have z1 := (B2.out.cell (p := ⟨w.heap.size + 1 + 1, 0, none⟩) (show w.heap.size + 1 + 1 < _ by omega)).trans E0.out
          have z2 := (B2.out.frozen (p := ⟨w.heap.size + 1 + 1, 0, none⟩) (show w.heap.size + 1 + 1 < _ by omega)).trans E1.out
          clear hZ_ ho2 hg2
          refine hK.out _ _ (KF.out _ (B2.out.mono (by omega)) ((B2.out.cell (p := ⟨w.heap.size, 0, none⟩) (show w.heap.size < _ by omega)).trans C0.out)) (fun hHeld => ?_)
          clear hK K
          refine wpAnyH_take (i := 24) (v := ?_) rfl (by kernel_rfl) (by kernel_rfl) (by kernel_rfl) (fun _ _ _ h => h) (Or.inl ⟨by rfl, ?_⟩) hHeld ?_
          rotate_left
          · (intro w' hSw; (try dsimp only at hSw); go_simp; try with_reducible rfl)
          simp only [List.getElem_toArray, List.getElem_cons_zero, List.getElem_cons_succ, Act.put, List.setIfInBounds_toArray, List.set_cons_zero, List.set_cons_succ]
          refine wpAnyH_ready (rs := [25]) (by kernel_rfl) (by simp) ?_
          refine AllReadyH.cons rfl (fun K hK => ?_) AllReadyH.nil
          go_simp
          refine hK.out _ _ (KF.out _ ((B2.out.mono (by omega)).setCell (by show w.heap.size ≤ w.heap.size + 1 + 1; omega) _) ((World.cell?_setCell_other _ _ _ _ (by simp)).trans ((B2.out.cell (p := ⟨w.heap.size, 0, none⟩) (show w.heap.size < _ by omega)).trans C0.out))) (fun hHeld => ?_)
          clear hK K
          refine wpAnyH_done (by kernel_rfl) ?_ _
          clear hHeld
          have C : ∀ z a v, wr.cell? a = some v → a.block < w.heap.size + 3 → (⟨w.heap.size + 1 + 1, 0, none⟩ : Addr) ≠ a → (u2.setCell ⟨w.heap.size + 1 + 1, 0, none⟩ z).cell? a = some v := fun z a v h hb ne => (World.cell?_setCell_other _ _ _ _ ne).trans ((B2.out.cell hb).trans h)
          have F : ∀ z a, wr.frozen? a = false → a.block < w.heap.size + 3 → (u2.setCell ⟨w.heap.size + 1 + 1, 0, none⟩ z).frozen? a = false := fun z a h hb => (World.frozen?_setCell _ _ _ _).trans ((B2.out.frozen hb).trans h)
          have EQ : Hid (∀ z, (u2.setCell ⟨w.heap.size + 1 + 1, 0, none⟩ z).cell? ⟨w.heap.size + 1 + 1, 0, none⟩ = some z) := Lib.hid (fun z => World.cell?_setCell_same u2 ⟨w.heap.size + 1 + 1, 0, none⟩ z z1)
          have CF := Lib.hid (And.intro C F)
          clear C F z1 z2 Y1 Y2 A1 A2 N1
          go_wp2_with fail
          go_roundw
          case rel =>
            obtain ⟨C, F⟩ := CF.out
            refine ⟨k + 1, a3, _, c3, by omega, by go_num, (HB.out.trans (B2.out.mono (by omega))).setCell (by show w.heap.size ≤ w.heap.size + 1 + 1; omega) _, by have := B2.out.size; have := HZ.out; simp [World.setCell]; omega, C _ _ _ C0.out (by simp) (by simp), ⟨C _ _ _ D0.out (by simp) (by simp), F _ _ D1.out (by simp)⟩, ⟨EQ.out _, F _ _ E1.out (by simp)⟩, ?_⟩
            rw [PK.out]
            have h := O2.out
            rw [show (P k ++ [x]).length = (P k).length + 1 by simp] at h
            exact h.kept (by simp [World.setCell]) fun b hb h => Below.heap_setCell _ _ _ _ (by have h2 : w.heap.size + 3 ≤ b := h.elim id id; show b ≠ w.heap.size + 1 + 1; omega)
          case measure => simp [intOf]; omega
    · obtain rfl : k = n := by omega
      have OE : Hid (∀ z, OwnJ (fun b => w.heap.size ≤ b) LPkt w.heap.size (wr.setCell ⟨w.heap.size + 1, 0, none⟩ z) (.slice a2 m2 c2) xs) := Lib.hid (fun z => by
        have h := HO.out
        rw [PN.out] at h
        exact ((h.kept (by simp [World.setCell]) fun b hb h => Below.heap_setCell _ _ _ _ (by have h2 : w.heap.size + 3 ≤ b := h.elim id id; show b ≠ w.heap.size + 1; omega)).mono (by omega)).imp fun b hb => Nat.le_trans (by omega) hb)
      go_wp2_with fail
      have E : ∀ x, (wr.setCell ⟨w.heap.size + 1, 0, none⟩ x).cell? ⟨w.heap.size + 1, 0, none⟩ = some x := fun x => World.cell?_setCell_same _ _ _ D0.out
      exact bodyPost_ret (v := .agg #[.slice a2 m2 c2]) (by simp [results, Try.results8, go_sem, E]) rfl ⟨_, rfl, OE.out _, HB.out.setCell (by simp) _⟩
end Go.Proofs.Ytgllaoanpemjlaa
