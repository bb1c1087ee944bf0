/- What the document's own Put and Norm of items leave. (Written by gen-put.py.) -/
import Derived.Test.YtnjkkhfaggkgjaaRefP
import Derived.Test.YtnjkkhfaggkgjaaRefL
namespace Go.Proofs.Ytnjkkhfaggkgjaa
open Go.RowKit Plain
set_option linter.unusedVariables false

theorem put_at {xs : List PItem} {x : PItem} {k : Nat} (hr : Ris iless xs) (hx : x ∉ xs) (h1 : ∀ j, j < k → lessB (xs.getD j default) x = true) (h2 : k < xs.length → lessB (xs.getD k default) x = false) (hk : k ≤ xs.length) :
    insR iless x xs = xs.take k ++ x :: xs.drop k := by
  have key : insR iless x (xs.take k ++ xs.drop k) = xs.take k ++ x :: xs.drop k := by
    refine insR_at sto_item (by rw [List.take_append_drop]; exact hr) (fun t ht => ?_) (fun t ht => ?_)
    · obtain ⟨j, hj, rfl⟩ := List.getElem_of_mem ht
      rw [List.length_take] at hj
      have := of_decide_eq_true (h1 j (by omega))
      rw [List.getElem_take]
      rwa [show xs.getD j default = xs[j] by simp [List.getD, List.getElem?_eq_getElem (show j < xs.length by omega)]] at this
    · obtain ⟨j, hj, rfl⟩ := List.getElem_of_mem ht
      rw [List.length_drop] at hj
      rw [List.getElem_drop]
      have hk' : k < xs.length := by omega
      have h3 := of_decide_eq_false (h2 hk')
      rw [show xs.getD k default = xs[k] by simp [List.getD, List.getElem?_eq_getElem hk']] at h3
      have h4 : iless x xs[k] := sto_item.total h3 (fun e => hx (by rw [← e]; exact List.getElem_mem hk'))
      by_cases e : j = 0
      · subst e; simpa using h4
      · exact sto_item.trans h4 (List.pairwise_iff_getElem.1 hr k (k + j) hk' (by omega) (by omega))
  rwa [List.take_append_drop] at key

set_option maxRecDepth 100000 in
set_option maxHeartbeats 8000000 in
/-- Put -/
theorem rput_any {u : Value} {xs : List PItem} {w : World} (hu : SeqE LItem w u xs) (hn : xs.length ≤ 1000000) (x : PItem) (hr : Ris iless xs) (hx : x ∉ xs) :
    Calls Try.prog 42 #[u, itv x] w (MadeE LItem w (insR iless x xs)) := by
  have HP := Lib.hid (fun k h1 h2 hk => put_at (k := k) hr hx h1 h2 hk)
  obtain ⟨a, cap, rfl, g1, g2, g0, h⟩ := hu.parts
  have HS := Lib.hid (h.below_alloc (.cells #[.string (bt x.key), .string (bt x.field), .int .i64 x.kind, .string (bt x.elem), .int .i64 x.n, .int .i64 x.dot.node, .int .i64 x.dot.seq, .int .i64 x.dot.pos] 26))
  have IA : Hid (ItemAt (w.alloc (.cells #[.string (bt x.key), .string (bt x.field), .int .i64 x.kind, .string (bt x.elem), .int .i64 x.n, .int .i64 x.dot.node, .int .i64 x.dot.seq, .int .i64 x.dot.pos] 26)) w.heap.size 0 x) := Lib.hid ⟨by simp, by simp, by simp, by simp, by simp, by simp, by simp, by simp⟩
  have HB1 := Lib.hid ((Below.refl w.heap.size w).alloc (Nat.le_refl _) (.cells #[.string (bt x.key), .string (bt x.field), .int .i64 x.kind, .string (bt x.elem), .int .i64 x.n, .int .i64 x.dot.node, .int .i64 x.dot.seq, .int .i64 x.dot.pos] 26))
  have HW1 : Hid ((w.alloc (.cells #[.string (bt x.key), .string (bt x.field), .int .i64 x.kind, .string (bt x.elem), .int .i64 x.n, .int .i64 x.dot.node, .int .i64 x.dot.seq, .int .i64 x.dot.pos] 26)).heap.size = w.heap.size + 1) := Lib.hid (by simp)
  obtain ⟨n, hN⟩ : ∃ n, xs.length = n := ⟨_, rfl⟩
  rw [hN] at HS g1 hn ⊢
  have LN := Lib.hid hN
  have H0 := Lib.hid (g0)
  have KL := Lib.hid (fun (W : World) (y : PItem) => rless_any y x W)
  clear hu h g0 hN hr hx
  rw [itv_eq2]
  generalize insR iless x xs = R at *
  go_enter Try.func42, Try.ntmps42
  go_wp2_with fail
  generalize (w.alloc (.cells #[.string (bt x.key), .string (bt x.field), .int .i64 x.kind, .string (bt x.elem), .int .i64 x.n, .int .i64 x.dot.node, .int .i64 x.dot.seq, .int .i64 x.dot.pos] 26)) = W1 at *
  go_loopw [5] (fun i wr => ∃ k : Nat, k ≤ n ∧ i = .int .i64 k ∧ Aside (∀ j, j < k → lessB (xs.getD j default) x = true) ∧ Below (w.heap.size + 1) W1 wr) (fun i _ => n - (intOf i).toNat)
  case atStart => exact ⟨0, Nat.zero_le _, rfl, (fun j hj => absurd hj (Nat.not_lt_zero _)), Below.refl _ _⟩
  case round =>
    obtain ⟨k, hk, rfl, HA, hb⟩ := hrel
    have HB := Lib.hid hb
    have KLE := Lib.hid hk
    clear hb
    by_cases hlt : k < n
    · have HK := Lib.hid (show k < xs.length by rw [LN.out]; exact hlt)
      obtain ⟨b, o, c, hv, -, -, -, hc⟩ := items_spot (HS.out.below' HB.out (by rw [HW1.out]; omega)) (by rw [LN.out]; omega)
      rw [LN.out] at hv
      simp only [Value.slice.injEq] at hv
      obtain ⟨rfl, -, rfl⟩ := hv
      obtain ⟨c0, c1, c2, c3, c4, c5, c6, c7⟩ := hc k HK.out
      obtain ⟨d0, d1, d2, d3, d4, d5, d6, d7⟩ := IA.out.below HB.out (by omega)
      simp only [Nat.zero_add] at d1 d2 d3 d4 d5 d6 d7
      have K := Lib.hid (fun W => KL.out W (xs.getD k default))
      have HA2 : Hid (lessB (xs.getD k default) x = true → ∀ j, j < k + 1 → lessB (xs.getD j default) x = true) := Lib.hid (fun h j hj => by
        by_cases e : j = k
        · rw [e]; exact h
        · exact HA.out j (by omega))
      have HE : Hid (lessB (xs.getD k default) x = false → R = xs.take k ++ x :: xs.drop k) := Lib.hid (fun h => HP.out k HA.out (fun _ => h) (by rw [LN.out]; exact hk))
      clear hc
      generalize xs.getD k default = y at *
      have IY := Lib.hid (show ItemAt wr b (o + k * 8) y from ⟨c0, c1, c2, c3, c4, c5, c6, c7⟩)
      have IXX := Lib.hid (show ItemAt wr w.heap.size 0 x from IA.out.below HB.out (by omega))
      have KE : Hid (∀ u, Below wr.heap.size wr u → Below wr.heap.size wr u ∧ (u.cell? ⟨b, o + k * 8, none⟩ = some (.string (bt y.key)) ∧ u.cell? ⟨b, o + k * 8 + 1, none⟩ = some (.string (bt y.field)) ∧ u.cell? ⟨b, o + k * 8 + 2, none⟩ = some (.int .i64 y.kind) ∧ u.cell? ⟨b, o + k * 8 + 3, none⟩ = some (.string (bt y.elem)) ∧ u.cell? ⟨b, o + k * 8 + 4, none⟩ = some (.int .i64 y.n) ∧ u.cell? ⟨b, o + k * 8 + 5, none⟩ = some (.int .i64 y.dot.node) ∧ u.cell? ⟨b, o + k * 8 + 6, none⟩ = some (.int .i64 y.dot.seq) ∧ u.cell? ⟨b, o + k * 8 + 7, none⟩ = some (.int .i64 y.dot.pos)) ∧ (u.cell? ⟨w.heap.size, 0, none⟩ = some (.string (bt x.key)) ∧ u.cell? ⟨w.heap.size, 1, none⟩ = some (.string (bt x.field)) ∧ u.cell? ⟨w.heap.size, 2, none⟩ = some (.int .i64 x.kind) ∧ u.cell? ⟨w.heap.size, 3, none⟩ = some (.string (bt x.elem)) ∧ u.cell? ⟨w.heap.size, 4, none⟩ = some (.int .i64 x.n) ∧ u.cell? ⟨w.heap.size, 5, none⟩ = some (.int .i64 x.dot.node) ∧ u.cell? ⟨w.heap.size, 6, none⟩ = some (.int .i64 x.dot.seq) ∧ u.cell? ⟨w.heap.size, 7, none⟩ = some (.int .i64 x.dot.pos))) := Lib.hid (fun u hu => ⟨hu, by
        obtain ⟨c0, c1, c2, c3, c4, c5, c6, c7⟩ := IY.out.below hu IY.out.lt
        obtain ⟨d0, d1, d2, d3, d4, d5, d6, d7⟩ := IXX.out.below hu IXX.out.lt
        simp only [Nat.zero_add] at d1 d2 d3 d4 d5 d6 d7
        exact ⟨⟨c0, c1, c2, c3, c4, c5, c6, c7⟩, ⟨d0, d1, d2, d3, d4, d5, d6, d7⟩⟩⟩)
      cases hl : lessB y x with
      | true =>
        have HA3 := Lib.hid (HA2.out hl)
        rw [hl] at K
        clear hl HA2 HE
        go_wp2_with fail
        go_region_held3 (fun u => Below wr.heap.size wr u ∧ (u.cell? ⟨b, o + k * 8, none⟩ = some (.string (bt y.key)) ∧ u.cell? ⟨b, o + k * 8 + 1, none⟩ = some (.string (bt y.field)) ∧ u.cell? ⟨b, o + k * 8 + 2, none⟩ = some (.int .i64 y.kind) ∧ u.cell? ⟨b, o + k * 8 + 3, none⟩ = some (.string (bt y.elem)) ∧ u.cell? ⟨b, o + k * 8 + 4, none⟩ = some (.int .i64 y.n) ∧ u.cell? ⟨b, o + k * 8 + 5, none⟩ = some (.int .i64 y.dot.node) ∧ u.cell? ⟨b, o + k * 8 + 6, none⟩ = some (.int .i64 y.dot.seq) ∧ u.cell? ⟨b, o + k * 8 + 7, none⟩ = some (.int .i64 y.dot.pos)) ∧ (u.cell? ⟨w.heap.size, 0, none⟩ = some (.string (bt x.key)) ∧ u.cell? ⟨w.heap.size, 1, none⟩ = some (.string (bt x.field)) ∧ u.cell? ⟨w.heap.size, 2, none⟩ = some (.int .i64 x.kind) ∧ u.cell? ⟨w.heap.size, 3, none⟩ = some (.string (bt x.elem)) ∧ u.cell? ⟨w.heap.size, 4, none⟩ = some (.int .i64 x.n) ∧ u.cell? ⟨w.heap.size, 5, none⟩ = some (.int .i64 x.dot.node) ∧ u.cell? ⟨w.heap.size, 6, none⟩ = some (.int .i64 x.dot.seq) ∧ u.cell? ⟨w.heap.size, 7, none⟩ = some (.int .i64 x.dot.pos)))
          (first | (exact KE.out _ (Below.refl _ _).drew) | (exact KE.out _ (holdC (by assumption) hb)))
          ((go_at_call 28; refine (K.out _).mono ?_; rintro e u2 ⟨rfl, hb⟩; have hbu := holdC (by assumption) hb))
        have HB2 : Hid (Below (w.heap.size + 1) W1 u2) := Lib.hid (HB.out.trans (hbu.mono (by have := HB.out.size; rw [HW1.out] at this; exact this)))
        clear hbu hb c0 c1 c2 c3 c4 c5 c6 c7 d0 d1 d2 d3 d4 d5 d6 d7
        go_wp2_with fail
        go_roundw
        case rel => exact ⟨k + 1, by omega, by go_num, HA3.out, HB2.out⟩
        case measure => simp [intOf]; omega
      | false =>
        have HR := Lib.hid (HE.out hl)
        have hck : ¬ cap = k := by omega
        rw [hl] at K
        clear hl HA2 HE
        go_wp2_with fail
        go_region_held3 (fun u => Below wr.heap.size wr u ∧ (u.cell? ⟨b, o + k * 8, none⟩ = some (.string (bt y.key)) ∧ u.cell? ⟨b, o + k * 8 + 1, none⟩ = some (.string (bt y.field)) ∧ u.cell? ⟨b, o + k * 8 + 2, none⟩ = some (.int .i64 y.kind) ∧ u.cell? ⟨b, o + k * 8 + 3, none⟩ = some (.string (bt y.elem)) ∧ u.cell? ⟨b, o + k * 8 + 4, none⟩ = some (.int .i64 y.n) ∧ u.cell? ⟨b, o + k * 8 + 5, none⟩ = some (.int .i64 y.dot.node) ∧ u.cell? ⟨b, o + k * 8 + 6, none⟩ = some (.int .i64 y.dot.seq) ∧ u.cell? ⟨b, o + k * 8 + 7, none⟩ = some (.int .i64 y.dot.pos)) ∧ (u.cell? ⟨w.heap.size, 0, none⟩ = some (.string (bt x.key)) ∧ u.cell? ⟨w.heap.size, 1, none⟩ = some (.string (bt x.field)) ∧ u.cell? ⟨w.heap.size, 2, none⟩ = some (.int .i64 x.kind) ∧ u.cell? ⟨w.heap.size, 3, none⟩ = some (.string (bt x.elem)) ∧ u.cell? ⟨w.heap.size, 4, none⟩ = some (.int .i64 x.n) ∧ u.cell? ⟨w.heap.size, 5, none⟩ = some (.int .i64 x.dot.node) ∧ u.cell? ⟨w.heap.size, 6, none⟩ = some (.int .i64 x.dot.seq) ∧ u.cell? ⟨w.heap.size, 7, none⟩ = some (.int .i64 x.dot.pos)))
          (first | (exact KE.out _ (Below.refl _ _).drew) | (exact KE.out _ (holdC (by assumption) hb)))
          ((go_at_call 28; refine (K.out _).mono ?_; rintro e u2 ⟨rfl, hb⟩; have hbu := holdC (by assumption) hb))
        have HBX : Hid (Below (w.heap.size + 1) W1 u2) := Lib.hid (HB.out.trans (hbu.mono (by have := HB.out.size; rw [HW1.out] at this; exact this)))
        clear hbu hb c0 c1 c2 c3 c4 c5 c6 c7 d0 d1 d2 d3 d4 d5 d6 d7
        have HSW := Lib.hid (HS.out.below' HBX.out (by rw [HW1.out]; omega))
        have IX := Lib.hid (IA.out.below HBX.out (by omega))
        have HBW : Hid (Below w.heap.size w u2) := Lib.hid (HB1.out.trans (HBX.out.mono (by omega)))
        have hws : w.heap.size + 1 ≤ u2.heap.size := by have := HBX.out.size; rw [HW1.out] at this; exact this
        have HWS := Lib.hid hws
        have SF := Lib.hid ((HSW.out.first k KLE.out).below_alloc (.cells #[] LItem.E))
        have O0 := Lib.hid (OwnE.empty (L := LItem) u2 u2.heap.size (Nat.le_refl _))
        have HLK : Hid ((xs.take k).length = k) := Lib.hid (by rw [List.length_take, LN.out]; have := KLE.out; omega)
        have LEN0 : Hid (([] : List PItem).length + (xs.take k).length ≤ 1073741824) := Lib.hid (by rw [HLK.out]; simp <;> omega)
        go_wp2_with (at_builtin; refine wpList_append_el LItem rfl (.tmp 21) (.tmp 24) rfl u2.heap.size rfl O0.out rfl SF.out (fun _ _ h => h) LEN0.out (by simp) ?_)
        intro v1 w1 ho1 hg1 _
        have hb1 : Below u2.heap.size u2 w1 := ((Below.refl _ _).alloc (Nat.le_refl _) _).grown hg1 (by simp) (fun j hj => (O0.out.lt j hj).1)
        obtain ⟨a1, c1, rfl, -, -, ho2⟩ := ho1.at k HLK.out
        have O1 := Lib.hid (ho2.mono hws)
        have B1 := Lib.hid hb1
        have IW : Hid (∀ u, Below (w.heap.size + 1) w1 u → Below (w.heap.size + 1) w1 u ∧ (u.cell? ⟨w.heap.size, 0, none⟩ = some (.string (bt x.key)) ∧ u.cell? ⟨w.heap.size, 1, none⟩ = some (.string (bt x.field)) ∧ u.cell? ⟨w.heap.size, 2, none⟩ = some (.int .i64 x.kind) ∧ u.cell? ⟨w.heap.size, 3, none⟩ = some (.string (bt x.elem)) ∧ u.cell? ⟨w.heap.size, 4, none⟩ = some (.int .i64 x.n) ∧ u.cell? ⟨w.heap.size, 5, none⟩ = some (.int .i64 x.dot.node) ∧ u.cell? ⟨w.heap.size, 6, none⟩ = some (.int .i64 x.dot.seq) ∧ u.cell? ⟨w.heap.size, 7, none⟩ = some (.int .i64 x.dot.pos))) := Lib.hid (fun u hu => ⟨hu, by
          have I := (IX.out.below (B1.out.mono hws) (by omega)).below hu (by omega)
          obtain ⟨c0, c1, c2, c3, c4, c5, c6, c7⟩ := I
          simp only [Nat.zero_add] at c1 c2 c3 c4 c5 c6 c7
          exact ⟨c0, c1, c2, c3, c4, c5, c6, c7⟩⟩)
        have hN1 : w.heap.size + 1 ≤ w1.heap.size := by have := B1.out.size; omega
        have HN1 := Lib.hid hN1
        have SD : Hid (∀ u, Below (w.heap.size + 1) w1 u → SeqE LItem u (.slice (some ⟨b, o + k * 8, none⟩) (n - k) (cap - k)) (xs.drop k)) := Lib.hid (fun u hu => (HS.out.behind k KLE.out).below' ((HBX.out.trans (B1.out.mono HWS.out)).trans hu) (by rw [HW1.out]; omega))
        have X1 := Lib.hid (fun (W : World) => one_item W x)
        have LEN1 : Hid ((xs.take k).length + ([x] : List PItem).length ≤ 1073741824) := Lib.hid (by rw [HLK.out]; simp <;> omega)
        have LEN2 : Hid ((xs.take k ++ [x]).length + (xs.drop k).length ≤ 1073741824) := Lib.hid (by rw [List.length_append, HLK.out, List.length_drop, LN.out]; simp <;> omega)
        have LEN3 : Hid ((xs.take k ++ [x]).length = k + 1) := Lib.hid (by rw [List.length_append, HLK.out]; rfl)
        have HBA := Lib.hid (HBW.out.trans (B1.out.mono (by omega : w.heap.size ≤ u2.heap.size)))
        clear ho1 ho2 hg1 hb1 hws hN1
        go_wp2_with fail
        go_region_held3 (fun u => Below (w.heap.size + 1) w1 u ∧ (u.cell? ⟨w.heap.size, 0, none⟩ = some (.string (bt x.key)) ∧ u.cell? ⟨w.heap.size, 1, none⟩ = some (.string (bt x.field)) ∧ u.cell? ⟨w.heap.size, 2, none⟩ = some (.int .i64 x.kind) ∧ u.cell? ⟨w.heap.size, 3, none⟩ = some (.string (bt x.elem)) ∧ u.cell? ⟨w.heap.size, 4, none⟩ = some (.int .i64 x.n) ∧ u.cell? ⟨w.heap.size, 5, none⟩ = some (.int .i64 x.dot.node) ∧ u.cell? ⟨w.heap.size, 6, none⟩ = some (.int .i64 x.dot.seq) ∧ u.cell? ⟨w.heap.size, 7, none⟩ = some (.int .i64 x.dot.pos)))
          (first | (exact IW.out _ (Below.refl _ _).drew) | (exact IW.out _ ((Below.refl _ _).alloc HN1.out _).drew) | (exact IW.out _ (holdEA (by assumption) HN1.out _)) | (exact IW.out _ (holdE (by assumption) hb)))
          (first
            | (refine step_append_el LItem (by rfl) (.tmp 26) (.tmp 28) (by rfl) (w.heap.size + 1) (by rfl) (O1.out.below ((Below.refl w1.heap.size w1).drew.alloc (Nat.le_refl _) _) (Nat.le_refl _)) (by rfl) (X1.out _) (fun _ _ h => h) LEN1.out (held_le (by assumption) HN1.out) ?_; intro v2 u2 ho2 hb; obtain ⟨b2, d2, rfl, -, -, ho2⟩ := ho2.at (k + 1) LEN3.out)
            | (refine step_append_el LItem (by rfl) (.tmp 29) (.tmp 32) (by rfl) (w.heap.size + 1) (by rfl) ho2 (by rfl) (SD.out _ (by assumption : _ ∧ _).1) (fun _ _ h => h) LEN2.out (held_le (by assumption) HN1.out) ?_; intro v3 u3 ho3 hb; have hbe := holdE (by assumption) hb))
        have O3 := Lib.hid (show OwnE LItem w.heap.size u3 v3 R by rw [HR.out]; have := ho3.mono (C := w.heap.size) (by omega); rwa [List.append_assoc] at this)
        have G3 := Lib.hid (HBA.out.trans (hbe.mono (by omega)))
        clear ho3 hb hbe
        go_wp2_with fail
        go_ret
        exact ⟨_, rfl, O3.out, G3.out⟩
    · obtain rfl : k = n := by omega
      have HR : Hid (R = xs.take k ++ x :: xs.drop k) := Lib.hid (HP.out k HA.out (fun h => absurd h (by rw [LN.out]; omega)) (by rw [LN.out]; exact Nat.le_refl _))
      cases a with
      | none =>
        obtain rfl := H0.out rfl
        obtain rfl : k = 0 := by omega
        go_wp2_with fail
        go_quiet (fail)
        have HBX : Hid (Below (w.heap.size + 1) W1 (wr.drewN nq)) := Lib.hid (below_drewN HB.out _)
        generalize wr.drewN nq = u2 at *
        have HSW := Lib.hid (HS.out.below' HBX.out (by rw [HW1.out]; omega))
        have IX := Lib.hid (IA.out.below HBX.out (by omega))
        have HBW : Hid (Below w.heap.size w u2) := Lib.hid (HB1.out.trans (HBX.out.mono (by omega)))
        have hws : w.heap.size + 1 ≤ u2.heap.size := by have := HBX.out.size; rw [HW1.out] at this; exact this
        have HWS := Lib.hid hws
        have SF := Lib.hid ((HSW.out.first 0 KLE.out).below_alloc (.cells #[] LItem.E))
        have O0 := Lib.hid (OwnE.empty (L := LItem) u2 u2.heap.size (Nat.le_refl _))
        have HLK : Hid ((xs.take 0).length = 0) := Lib.hid (by rw [List.length_take, LN.out]; have := KLE.out; omega)
        have LEN0 : Hid (([] : List PItem).length + (xs.take 0).length ≤ 1073741824) := Lib.hid (by rw [HLK.out]; simp <;> omega)
        go_wp2_with (at_builtin; refine wpList_append_el LItem rfl (.tmp 21) (.tmp 24) rfl u2.heap.size rfl O0.out rfl SF.out (fun _ _ h => h) LEN0.out (by simp) ?_)
        intro v1 w1 ho1 hg1 _
        have hb1 : Below u2.heap.size u2 w1 := ((Below.refl _ _).alloc (Nat.le_refl _) _).grown hg1 (by simp) (fun j hj => (O0.out.lt j hj).1)
        obtain ⟨a1, c1, rfl, -, -, ho2⟩ := ho1.at 0 HLK.out
        have O1 := Lib.hid (ho2.mono hws)
        have B1 := Lib.hid hb1
        have IW : Hid (∀ u, Below (w.heap.size + 1) w1 u → Below (w.heap.size + 1) w1 u ∧ (u.cell? ⟨w.heap.size, 0, none⟩ = some (.string (bt x.key)) ∧ u.cell? ⟨w.heap.size, 1, none⟩ = some (.string (bt x.field)) ∧ u.cell? ⟨w.heap.size, 2, none⟩ = some (.int .i64 x.kind) ∧ u.cell? ⟨w.heap.size, 3, none⟩ = some (.string (bt x.elem)) ∧ u.cell? ⟨w.heap.size, 4, none⟩ = some (.int .i64 x.n) ∧ u.cell? ⟨w.heap.size, 5, none⟩ = some (.int .i64 x.dot.node) ∧ u.cell? ⟨w.heap.size, 6, none⟩ = some (.int .i64 x.dot.seq) ∧ u.cell? ⟨w.heap.size, 7, none⟩ = some (.int .i64 x.dot.pos))) := Lib.hid (fun u hu => ⟨hu, by
          have I := (IX.out.below (B1.out.mono hws) (by omega)).below hu (by omega)
          obtain ⟨c0, c1, c2, c3, c4, c5, c6, c7⟩ := I
          simp only [Nat.zero_add] at c1 c2 c3 c4 c5 c6 c7
          exact ⟨c0, c1, c2, c3, c4, c5, c6, c7⟩⟩)
        have hN1 : w.heap.size + 1 ≤ w1.heap.size := by have := B1.out.size; omega
        have HN1 := Lib.hid hN1
        have SD : Hid (∀ u, Below (w.heap.size + 1) w1 u → SeqE LItem u (.slice none 0 0) (xs.drop 0)) := Lib.hid (fun u hu => by rw [List.drop_eq_nil_of_le (by rw [LN.out]; exact Nat.zero_le _)]; exact SeqE.nil u)
        have X1 := Lib.hid (fun (W : World) => one_item W x)
        have LEN1 : Hid ((xs.take 0).length + ([x] : List PItem).length ≤ 1073741824) := Lib.hid (by rw [HLK.out]; simp <;> omega)
        have LEN2 : Hid ((xs.take 0 ++ [x]).length + (xs.drop 0).length ≤ 1073741824) := Lib.hid (by rw [List.length_append, HLK.out, List.length_drop, LN.out]; simp <;> omega)
        have LEN3 : Hid ((xs.take 0 ++ [x]).length = 0 + 1) := Lib.hid (by rw [List.length_append, HLK.out]; rfl)
        have HBA := Lib.hid (HBW.out.trans (B1.out.mono (by omega : w.heap.size ≤ u2.heap.size)))
        clear ho1 ho2 hg1 hb1 hws hN1
        go_wp2_with fail
        go_region_held3 (fun u => Below (w.heap.size + 1) w1 u ∧ (u.cell? ⟨w.heap.size, 0, none⟩ = some (.string (bt x.key)) ∧ u.cell? ⟨w.heap.size, 1, none⟩ = some (.string (bt x.field)) ∧ u.cell? ⟨w.heap.size, 2, none⟩ = some (.int .i64 x.kind) ∧ u.cell? ⟨w.heap.size, 3, none⟩ = some (.string (bt x.elem)) ∧ u.cell? ⟨w.heap.size, 4, none⟩ = some (.int .i64 x.n) ∧ u.cell? ⟨w.heap.size, 5, none⟩ = some (.int .i64 x.dot.node) ∧ u.cell? ⟨w.heap.size, 6, none⟩ = some (.int .i64 x.dot.seq) ∧ u.cell? ⟨w.heap.size, 7, none⟩ = some (.int .i64 x.dot.pos)))
          (first | (exact IW.out _ (Below.refl _ _).drew) | (exact IW.out _ ((Below.refl _ _).alloc HN1.out _).drew) | (exact IW.out _ (holdEA (by assumption) HN1.out _)) | (exact IW.out _ (holdE (by assumption) hb)))
          (first
            | (refine step_append_el LItem (by rfl) (.tmp 26) (.tmp 28) (by rfl) (w.heap.size + 1) (by rfl) (O1.out.below ((Below.refl w1.heap.size w1).drew.alloc (Nat.le_refl _) _) (Nat.le_refl _)) (by rfl) (X1.out _) (fun _ _ h => h) LEN1.out (held_le (by assumption) HN1.out) ?_; intro v2 u2 ho2 hb; obtain ⟨b2, d2, rfl, -, -, ho2⟩ := ho2.at (0 + 1) LEN3.out)
            | (refine step_append_el LItem (by rfl) (.tmp 29) (.tmp 32) (by rfl) (w.heap.size + 1) (by rfl) ho2 (by rfl) (SD.out _ (by assumption : _ ∧ _).1) (fun _ _ h => h) LEN2.out (held_le (by assumption) HN1.out) ?_; intro v3 u3 ho3 hb; have hbe := holdE (by assumption) hb))
        have O3 := Lib.hid (show OwnE LItem w.heap.size u3 v3 R by rw [HR.out]; have := ho3.mono (C := w.heap.size) (by omega); rwa [List.append_assoc] at this)
        have G3 := Lib.hid (HBA.out.trans (hbe.mono (by omega)))
        clear ho3 hb hbe
        go_wp2_with fail
        go_ret
        exact ⟨_, rfl, O3.out, G3.out⟩
      | some ad =>
        by_cases hck : cap = k
        · have hck2 := hck.symm
          subst hck2
          go_wp2_with fail
          go_quiet (fail)
          have HBX : Hid (Below (w.heap.size + 1) W1 (wr.drewN nq)) := Lib.hid (below_drewN HB.out _)
          generalize wr.drewN nq = u2 at *
          have HSW := Lib.hid (HS.out.below' HBX.out (by rw [HW1.out]; omega))
          have IX := Lib.hid (IA.out.below HBX.out (by omega))
          have HBW : Hid (Below w.heap.size w u2) := Lib.hid (HB1.out.trans (HBX.out.mono (by omega)))
          have hws : w.heap.size + 1 ≤ u2.heap.size := by have := HBX.out.size; rw [HW1.out] at this; exact this
          have HWS := Lib.hid hws
          have SF := Lib.hid ((HSW.out.first k KLE.out).below_alloc (.cells #[] LItem.E))
          have O0 := Lib.hid (OwnE.empty (L := LItem) u2 u2.heap.size (Nat.le_refl _))
          have HLK : Hid ((xs.take k).length = k) := Lib.hid (by rw [List.length_take, LN.out]; have := KLE.out; omega)
          have LEN0 : Hid (([] : List PItem).length + (xs.take k).length ≤ 1073741824) := Lib.hid (by rw [HLK.out]; simp <;> omega)
          go_wp2_with (at_builtin; refine wpList_append_el LItem rfl (.tmp 21) (.tmp 24) rfl u2.heap.size rfl O0.out rfl SF.out (fun _ _ h => h) LEN0.out (by simp) ?_)
          intro v1 w1 ho1 hg1 _
          have hb1 : Below u2.heap.size u2 w1 := ((Below.refl _ _).alloc (Nat.le_refl _) _).grown hg1 (by simp) (fun j hj => (O0.out.lt j hj).1)
          obtain ⟨a1, c1, rfl, -, -, ho2⟩ := ho1.at k HLK.out
          have O1 := Lib.hid (ho2.mono hws)
          have B1 := Lib.hid hb1
          have IW : Hid (∀ u, Below (w.heap.size + 1) w1 u → Below (w.heap.size + 1) w1 u ∧ (u.cell? ⟨w.heap.size, 0, none⟩ = some (.string (bt x.key)) ∧ u.cell? ⟨w.heap.size, 1, none⟩ = some (.string (bt x.field)) ∧ u.cell? ⟨w.heap.size, 2, none⟩ = some (.int .i64 x.kind) ∧ u.cell? ⟨w.heap.size, 3, none⟩ = some (.string (bt x.elem)) ∧ u.cell? ⟨w.heap.size, 4, none⟩ = some (.int .i64 x.n) ∧ u.cell? ⟨w.heap.size, 5, none⟩ = some (.int .i64 x.dot.node) ∧ u.cell? ⟨w.heap.size, 6, none⟩ = some (.int .i64 x.dot.seq) ∧ u.cell? ⟨w.heap.size, 7, none⟩ = some (.int .i64 x.dot.pos))) := Lib.hid (fun u hu => ⟨hu, by
            have I := (IX.out.below (B1.out.mono hws) (by omega)).below hu (by omega)
            obtain ⟨c0, c1, c2, c3, c4, c5, c6, c7⟩ := I
            simp only [Nat.zero_add] at c1 c2 c3 c4 c5 c6 c7
            exact ⟨c0, c1, c2, c3, c4, c5, c6, c7⟩⟩)
          have hN1 : w.heap.size + 1 ≤ w1.heap.size := by have := B1.out.size; omega
          have HN1 := Lib.hid hN1
          have SD : Hid (∀ u, Below (w.heap.size + 1) w1 u → SeqE LItem u (.slice (some ad) 0 0) (xs.drop k)) := Lib.hid (fun u hu => by rw [List.drop_eq_nil_of_le (by rw [LN.out]; exact Nat.le_refl _)]; exact SeqE.empty u _ _ (by unfold maxLen; omega))
          have X1 := Lib.hid (fun (W : World) => one_item W x)
          have LEN1 : Hid ((xs.take k).length + ([x] : List PItem).length ≤ 1073741824) := Lib.hid (by rw [HLK.out]; simp <;> omega)
          have LEN2 : Hid ((xs.take k ++ [x]).length + (xs.drop k).length ≤ 1073741824) := Lib.hid (by rw [List.length_append, HLK.out, List.length_drop, LN.out]; simp <;> omega)
          have LEN3 : Hid ((xs.take k ++ [x]).length = k + 1) := Lib.hid (by rw [List.length_append, HLK.out]; rfl)
          have HBA := Lib.hid (HBW.out.trans (B1.out.mono (by omega : w.heap.size ≤ u2.heap.size)))
          clear ho1 ho2 hg1 hb1 hws hN1
          go_wp2_with fail
          go_region_held3 (fun u => Below (w.heap.size + 1) w1 u ∧ (u.cell? ⟨w.heap.size, 0, none⟩ = some (.string (bt x.key)) ∧ u.cell? ⟨w.heap.size, 1, none⟩ = some (.string (bt x.field)) ∧ u.cell? ⟨w.heap.size, 2, none⟩ = some (.int .i64 x.kind) ∧ u.cell? ⟨w.heap.size, 3, none⟩ = some (.string (bt x.elem)) ∧ u.cell? ⟨w.heap.size, 4, none⟩ = some (.int .i64 x.n) ∧ u.cell? ⟨w.heap.size, 5, none⟩ = some (.int .i64 x.dot.node) ∧ u.cell? ⟨w.heap.size, 6, none⟩ = some (.int .i64 x.dot.seq) ∧ u.cell? ⟨w.heap.size, 7, none⟩ = some (.int .i64 x.dot.pos)))
            (first | (exact IW.out _ (Below.refl _ _).drew) | (exact IW.out _ ((Below.refl _ _).alloc HN1.out _).drew) | (exact IW.out _ (holdEA (by assumption) HN1.out _)) | (exact IW.out _ (holdE (by assumption) hb)))
            (first
              | (refine step_append_el LItem (by rfl) (.tmp 26) (.tmp 28) (by rfl) (w.heap.size + 1) (by rfl) (O1.out.below ((Below.refl w1.heap.size w1).drew.alloc (Nat.le_refl _) _) (Nat.le_refl _)) (by rfl) (X1.out _) (fun _ _ h => h) LEN1.out (held_le (by assumption) HN1.out) ?_; intro v2 u2 ho2 hb; obtain ⟨b2, d2, rfl, -, -, ho2⟩ := ho2.at (k + 1) LEN3.out)
              | (refine step_append_el LItem (by rfl) (.tmp 29) (.tmp 32) (by rfl) (w.heap.size + 1) (by rfl) ho2 (by rfl) (SD.out _ (by assumption : _ ∧ _).1) (fun _ _ h => h) LEN2.out (held_le (by assumption) HN1.out) ?_; intro v3 u3 ho3 hb; have hbe := holdE (by assumption) hb))
          have O3 := Lib.hid (show OwnE LItem w.heap.size u3 v3 R by rw [HR.out]; have := ho3.mono (C := w.heap.size) (by omega); rwa [List.append_assoc] at this)
          have G3 := Lib.hid (HBA.out.trans (hbe.mono (by omega)))
          clear ho3 hb hbe
          go_wp2_with fail
          go_ret
          exact ⟨_, rfl, O3.out, G3.out⟩
        · go_wp2_with fail
          go_quiet (fail)
          have HBX : Hid (Below (w.heap.size + 1) W1 (wr.drewN nq)) := Lib.hid (below_drewN HB.out _)
          generalize wr.drewN nq = u2 at *
          have HSW := Lib.hid (HS.out.below' HBX.out (by rw [HW1.out]; omega))
          have IX := Lib.hid (IA.out.below HBX.out (by omega))
          have HBW : Hid (Below w.heap.size w u2) := Lib.hid (HB1.out.trans (HBX.out.mono (by omega)))
          have hws : w.heap.size + 1 ≤ u2.heap.size := by have := HBX.out.size; rw [HW1.out] at this; exact this
          have HWS := Lib.hid hws
          have SF := Lib.hid ((HSW.out.first k KLE.out).below_alloc (.cells #[] LItem.E))
          have O0 := Lib.hid (OwnE.empty (L := LItem) u2 u2.heap.size (Nat.le_refl _))
          have HLK : Hid ((xs.take k).length = k) := Lib.hid (by rw [List.length_take, LN.out]; have := KLE.out; omega)
          have LEN0 : Hid (([] : List PItem).length + (xs.take k).length ≤ 1073741824) := Lib.hid (by rw [HLK.out]; simp <;> omega)
          go_wp2_with (at_builtin; refine wpList_append_el LItem rfl (.tmp 21) (.tmp 24) rfl u2.heap.size rfl O0.out rfl SF.out (fun _ _ h => h) LEN0.out (by simp) ?_)
          intro v1 w1 ho1 hg1 _
          have hb1 : Below u2.heap.size u2 w1 := ((Below.refl _ _).alloc (Nat.le_refl _) _).grown hg1 (by simp) (fun j hj => (O0.out.lt j hj).1)
          obtain ⟨a1, c1, rfl, -, -, ho2⟩ := ho1.at k HLK.out
          have O1 := Lib.hid (ho2.mono hws)
          have B1 := Lib.hid hb1
          have IW : Hid (∀ u, Below (w.heap.size + 1) w1 u → Below (w.heap.size + 1) w1 u ∧ (u.cell? ⟨w.heap.size, 0, none⟩ = some (.string (bt x.key)) ∧ u.cell? ⟨w.heap.size, 1, none⟩ = some (.string (bt x.field)) ∧ u.cell? ⟨w.heap.size, 2, none⟩ = some (.int .i64 x.kind) ∧ u.cell? ⟨w.heap.size, 3, none⟩ = some (.string (bt x.elem)) ∧ u.cell? ⟨w.heap.size, 4, none⟩ = some (.int .i64 x.n) ∧ u.cell? ⟨w.heap.size, 5, none⟩ = some (.int .i64 x.dot.node) ∧ u.cell? ⟨w.heap.size, 6, none⟩ = some (.int .i64 x.dot.seq) ∧ u.cell? ⟨w.heap.size, 7, none⟩ = some (.int .i64 x.dot.pos))) := Lib.hid (fun u hu => ⟨hu, by
            have I := (IX.out.below (B1.out.mono hws) (by omega)).below hu (by omega)
            obtain ⟨c0, c1, c2, c3, c4, c5, c6, c7⟩ := I
            simp only [Nat.zero_add] at c1 c2 c3 c4 c5 c6 c7
            exact ⟨c0, c1, c2, c3, c4, c5, c6, c7⟩⟩)
          have hN1 : w.heap.size + 1 ≤ w1.heap.size := by have := B1.out.size; omega
          have HN1 := Lib.hid hN1
          have SD : Hid (∀ u, Below (w.heap.size + 1) w1 u → SeqE LItem u (.slice (some (ad.add (k * 8))) 0 (cap - k)) (xs.drop k)) := Lib.hid (fun u hu => by rw [List.drop_eq_nil_of_le (by rw [LN.out]; exact Nat.le_refl _)]; exact SeqE.empty u _ _ (by unfold maxLen; omega))
          have X1 := Lib.hid (fun (W : World) => one_item W x)
          have LEN1 : Hid ((xs.take k).length + ([x] : List PItem).length ≤ 1073741824) := Lib.hid (by rw [HLK.out]; simp <;> omega)
          have LEN2 : Hid ((xs.take k ++ [x]).length + (xs.drop k).length ≤ 1073741824) := Lib.hid (by rw [List.length_append, HLK.out, List.length_drop, LN.out]; simp <;> omega)
          have LEN3 : Hid ((xs.take k ++ [x]).length = k + 1) := Lib.hid (by rw [List.length_append, HLK.out]; rfl)
          have HBA := Lib.hid (HBW.out.trans (B1.out.mono (by omega : w.heap.size ≤ u2.heap.size)))
          clear ho1 ho2 hg1 hb1 hws hN1
          go_wp2_with fail
          go_region_held3 (fun u => Below (w.heap.size + 1) w1 u ∧ (u.cell? ⟨w.heap.size, 0, none⟩ = some (.string (bt x.key)) ∧ u.cell? ⟨w.heap.size, 1, none⟩ = some (.string (bt x.field)) ∧ u.cell? ⟨w.heap.size, 2, none⟩ = some (.int .i64 x.kind) ∧ u.cell? ⟨w.heap.size, 3, none⟩ = some (.string (bt x.elem)) ∧ u.cell? ⟨w.heap.size, 4, none⟩ = some (.int .i64 x.n) ∧ u.cell? ⟨w.heap.size, 5, none⟩ = some (.int .i64 x.dot.node) ∧ u.cell? ⟨w.heap.size, 6, none⟩ = some (.int .i64 x.dot.seq) ∧ u.cell? ⟨w.heap.size, 7, none⟩ = some (.int .i64 x.dot.pos)))
            (first | (exact IW.out _ (Below.refl _ _).drew) | (exact IW.out _ ((Below.refl _ _).alloc HN1.out _).drew) | (exact IW.out _ (holdEA (by assumption) HN1.out _)) | (exact IW.out _ (holdE (by assumption) hb)))
            (first
              | (refine step_append_el LItem (by rfl) (.tmp 26) (.tmp 28) (by rfl) (w.heap.size + 1) (by rfl) (O1.out.below ((Below.refl w1.heap.size w1).drew.alloc (Nat.le_refl _) _) (Nat.le_refl _)) (by rfl) (X1.out _) (fun _ _ h => h) LEN1.out (held_le (by assumption) HN1.out) ?_; intro v2 u2 ho2 hb; obtain ⟨b2, d2, rfl, -, -, ho2⟩ := ho2.at (k + 1) LEN3.out)
              | (refine step_append_el LItem (by rfl) (.tmp 29) (.tmp 32) (by rfl) (w.heap.size + 1) (by rfl) ho2 (by rfl) (SD.out _ (by assumption : _ ∧ _).1) (fun _ _ h => h) LEN2.out (held_le (by assumption) HN1.out) ?_; intro v3 u3 ho3 hb; have hbe := holdE (by assumption) hb))
          have O3 := Lib.hid (show OwnE LItem w.heap.size u3 v3 R by rw [HR.out]; have := ho3.mono (C := w.heap.size) (by omega); rwa [List.append_assoc] at this)
          have G3 := Lib.hid (HBA.out.trans (hbe.mono (by omega)))
          clear ho3 hb hbe
          go_wp2_with fail
          go_ret
          exact ⟨_, rfl, O3.out, G3.out⟩
end Go.Proofs.Ytnjkkhfaggkgjaa
