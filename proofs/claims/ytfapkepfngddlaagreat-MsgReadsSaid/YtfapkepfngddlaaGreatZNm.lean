/- What the document's own Norm of texts leaves. -/
import Derived.Test.YtfapkepfngddlaaGreatRefZs
set_option maxRecDepth 100000
set_option maxHeartbeats 64000000
namespace Go.Proofs.YtfapkepfngddlaaGreat
open Go.RowKit Plain
set_option linter.unusedVariables false
def pick (f : Txt → Bool) (xs : List Txt) (k : Nat) : List Txt := (xs.take k).filter f
theorem take_nextZ {xs : List Txt} {k : Nat} (hk : k < xs.length) : xs.take (k + 1) = xs.take k ++ [xs.getD k []] := by
 rw [List.take_succ_eq_append_getElem hk];simp [List.getD, List.getElem?_eq_getElem hk]
theorem pick_yes {f : Txt → Bool} {xs : List Txt} {k : Nat} (hk : k < xs.length) (h : f (xs.getD k []) = true) : pick f xs k ++ [xs.getD k []] = pick f xs (k + 1) := by
 unfold pick;rw [take_nextZ hk, List.filter_append];simp only [List.filter_cons, h, if_true, List.filter_nil]
theorem pick_no {f : Txt → Bool} {xs : List Txt} {k : Nat} (hk : k < xs.length) (h : f (xs.getD k []) = false) : pick f xs k = pick f xs (k + 1) := by
 unfold pick;rw [take_nextZ hk, List.filter_append, List.filter_cons, if_neg (by rw [h]; decide), List.filter_nil, List.append_nil]
theorem pick_all (f : Txt → Bool) (xs : List Txt) : pick f xs xs.length = xs.filter f := by unfold pick; rw [List.take_length]
theorem pick_len (f : Txt → Bool) (xs : List Txt) (k : Nat) : (pick f xs k).length ≤ k := by
 unfold pick;have := List.length_filter_le f (xs.take k);have := List.length_take_le k xs;omega
def aloneTo (l : List Txt) (s : Txt) (k : Nat) : Bool := alone (l.take k) s
theorem aloneTo_all (l : List Txt) (s : Txt) : aloneTo l s l.length = alone l s := by unfold aloneTo; rw [List.take_length]
theorem aloneTo_keep {l : List Txt} {s : Txt} {k : Nat} (hk : k < l.length) (h : l.getD k [] = s ∨ beg s (l.getD k []) = false) : aloneTo l s (k + 1) = aloneTo l s k := by
 unfold aloneTo alone;rw [take_nextZ hk, List.all_append];have : ([l.getD k []].all fun t => t == s || !beg s t) = true := by
  simp only [List.all_cons, List.all_nil, Bool.and_true]
  rcases h with h | h
  ·rw [h]; simp
  ·rw [h]; simp
 rw [this, Bool.and_true]
theorem aloneTo_hit {l : List Txt} {s : Txt} {k : Nat} (hk : k < l.length) (h1 : ¬ l.getD k [] = s) (h2 : beg s (l.getD k []) = true) : aloneTo l s (k + 1) = false := by
 unfold aloneTo alone;rw [take_nextZ hk, List.all_append];have : ([l.getD k []].all fun t => t == s || !beg s t) = false := by
  simp only [List.all_cons, List.all_nil, Bool.and_true, h2, Bool.not_true, Bool.or_false]
  exact beq_eq_false_iff_ne.2 h1
 rw [this, Bool.and_false]
def normV (l : List Txt) : List Txt := if normE l = 0 then least l else []
theorem normE_form {l : List Txt} {k : Nat} (hk : k < l.length) (h : prefixB (l.getD k []) = false) : normE l = 2 := by
 unfold normE;rw [if_neg];intro hall;rw [List.all_eq_true] at hall;rw [hall _ (mem_getD hk)] at h;exact absurd h (by decide)
theorem normE_of {l : List Txt} (h : ∀ k, k < l.length → prefixB (l.getD k []) = true) : normE l = if 8 < (least l).length then 4 else 0 := by
 unfold normE;rw [if_pos];rw [List.all_eq_true];intro t ht;obtain ⟨j, hj, rfl⟩ := mem_at ht;exact h j hj
theorem rnorm_any {u : Value} {xs : List Txt} {w : World} (hu : SeqT w u xs) (hx : FitT xs) (hn : xs.length ≤ 1000000) :
  Calls Tryz.prog 82 #[u] w fun e w' => ∃ v, e = .returned (.tuple #[v, .int .i64 (normE xs : Int)]) ∧ OwnsT w.heap.size w' v (normV xs) ∧ Below w.heap.size w w' := by
 obtain ⟨a, cap, rfl, g1, g2, g0, h⟩ := hu.parts;have hmx : maxLen = 9223372036854775807 := rfl;rw [hmx] at g2;obtain ⟨n, hN⟩ : ∃ n, xs.length = n := ⟨_, rfl⟩;rw [hN] at h g1 hn ⊢;have HS := zH h;have LN := zH hN;have E2 : Hid (∀ k, k < n → prefixB (xs.getD k []) = false → normE xs = 2 ∧ normV xs = []) := zH fun k hk hp => by
  have e := normE_form (l := xs) (by omega) hp;exact ⟨e, by unfold normV; rw [e]; rfl⟩
 have E4 : Hid ((∀ k, k < n → prefixB (xs.getD k []) = true) → 8 < (least xs).length → normE xs = 4 ∧ normV xs = []) := zH fun hp hl => by
  have e := normE_of (l := xs) (fun k hk => hp k (by omega));rw [if_pos hl] at e;exact ⟨e, by unfold normV; rw [e]; rfl⟩
 have E0 : Hid ((∀ k, k < n → prefixB (xs.getD k []) = true) → ¬ 8 < (least xs).length → normE xs = 0 ∧ normV xs = least xs) := zH fun hp hl => by
  have e := normE_of (l := xs) (fun k hk => hp k (by omega));rw [if_neg hl] at e;exact ⟨e, by unfold normV; rw [e]; rfl⟩
 have KP := zH (fun (k : Nat) (hk : k < n) (W : World) => rprefix_any (xs.getD k []) (Nat.le_trans (hx.at k (by omega)) (by omega)) W);have KB := zH (fun (j k : Nat) (hj : j < n) (hk : k < n) (W : World) => rbegins_any (xs.getD j []) (xs.getD k []) (hx.at j (by omega)) (hx.at k (by omega)) W);have LE := zH (show least xs = once (pick (alone xs) xs n) by rw [← hN, pick_all]; rfl);generalize hne : normE xs = ne at *;generalize hnv : normV xs = nv at *;clear hu h g0 hmx hN hx hne hnv;go_enter Tryz.func82, Tryz.ntmps82
 go_wp2_with fail
 go_loopw [4, 5, 6, 7] (fun o i _ _ wr => ∃ k : Nat, k ≤ n ∧ i = .int .i64 k ∧ OwnsT w.heap.size wr o (pick (alone xs) xs k) ∧ Below w.heap.size w wr ∧ ∀ j, j < k → prefixB (xs.getD j []) = true) (fun _ i _ _ _ => n - (intOf i).toNat)
 case atStart => exact ⟨0, Nat.zero_le _, rfl, OwnsT.nil _ _, Below.refl _ _, fun j hj => absurd hj (by omega)⟩
 case round =>
  obtain ⟨k, hk, rfl, ho, hb, hall⟩ := hrel
  rename World => wo
  have HO := zH ho;have HB := zH hb;have HALL := zH hall;have PL := pick_len (alone xs) xs k;clear ho hb hall
  by_cases hlt : k < n
  ·have HSW := zH (HS.out.below HB.out)
   obtain ⟨b, o, c, hv, -, -, -, hc⟩ := HSW.out.spot (by rw [LN.out]; omega);rw [LN.out] at hv;simp only [Value.slice.injEq] at hv
   obtain ⟨rfl, -, rfl⟩ := hv;have HC := zH hc;have c1 := hc k (by rw [LN.out]; exact hlt);unfold tv at c1;clear hc;have K := KP.out k hlt wo
   cases hp : prefixB (xs.getD k []) with
   | false =>
    rw [hp] at K;obtain ⟨rfl, rfl⟩ := E2.out k hlt hp;clear hp;generalize bt (xs.getD k []) = X at *;go_wp2_with fail
    refine K.mono ?_;rintro e w' ⟨rfl, rfl⟩;clear K;go_wp2_with fail
    go_ret2
    exact ⟨_, rfl, OwnsT.nil _ _, HB.out⟩
   | true =>
    rw [hp] at K;have HALL2 : Hid (∀ j, j < k + 1 → prefixB (xs.getD j []) = true) := zH (fun j hj => by
      by_cases h : j < k
      ·exact HALL.out j h
      ·obtain rfl : j = k := by omega
       exact hp)
    have HK := zH (show k < xs.length by rw [LN.out]; exact hlt);have S1 := zH (fun (W : World) => SeqT.one W (xs.getD k []));unfold tv at S1;clear hp;obtain ⟨X, hX⟩ : ∃ X, bt (xs.getD k []) = X := ⟨_, rfl⟩;have HX := zH hX;rw [hX] at c1 K S1;clear hX;go_wp2_with fail
    refine K.mono ?_;rintro e w' ⟨rfl, rfl⟩;clear K;go_wp2_with fail
    go_loopw [6, 7] (fun b i wr' => ∃ j : Nat, j ≤ n ∧ i = .int .i64 j ∧ b = .bool (aloneTo xs (xs.getD k []) j) ∧ ∃ q, wr' = wo.drewN q) (fun _ i _ => n - (intOf i).toNat)
    case atStart => exact ⟨0, Nat.zero_le _, rfl, rfl, 0, rfl⟩
    case round =>
     obtain ⟨j, hj, rfl, rfl, q, hq⟩ := hrel;have HQ := zH hq;have HSJ := zH (show SeqT wr (.slice (some ⟨b, o, none⟩) n cap) xs by rw [hq]; exact HSW.out.drawn q);have G1 : Hid (Below w.heap.size w wr) := zH (by rw [hq]; exact below_drewN HB.out q);have O1 : Hid (OwnsT w.heap.size wr _ (pick (alone xs) xs k)) := zH (by rw [hq]; exact HO.out.below (below_drewN (Below.refl _ _) q) (Nat.le_refl _));clear hq
     by_cases hjl : j < n
     ·have HJ := zH (show j < xs.length by rw [LN.out]; exact hjl)
      obtain ⟨b', o', c', hv', -, -, -, hcj⟩ := HSJ.out.spot (by rw [LN.out]; omega);rw [LN.out] at hv';simp only [Value.slice.injEq, Option.some.injEq, Addr.mk.injEq, and_true, true_and] at hv'
      obtain ⟨⟨rfl, rfl⟩, rfl⟩ := hv';have c2 := hcj j HJ.out;have c3 := hcj k HK.out;unfold tv at c2 c3;rw [HX.out] at c3;clear hcj;have t1 := text_eq (xs.getD j []) (xs.getD k []);rw [HX.out] at t1;have K2 := zH (fun W => KB.out k j hlt hjl W);rw [HX.out] at K2;have HKE := zH (fun h => aloneTo_keep (l := xs) (s := xs.getD k []) HJ.out h);have HHI := zH (fun h1 h2 => aloneTo_hit (l := xs) (s := xs.getD k []) HJ.out h1 h2)
      by_cases he : xs.getD j [] = xs.getD k []
      ·have HA := zH (HKE.out (.inl he))
       rw [decide_eq_true he] at t1;clear he K2;generalize aloneTo xs (xs.getD k []) j = al at *;generalize bt (xs.getD j []) = Y at *;go_wp2_with fail
       go_quiet (fail)
       go_wp2_with fail
       go_roundw
       case rel => exact ⟨j + 1, by omega, by go_num, by rw [HA.out], _, by rw [HQ.out]; exact World.drewN_drewN _ _ _⟩
       case measure => simp [intOf]; omega
      ·rw [decide_eq_false he] at t1
       cases hbg : beg (xs.getD k []) (xs.getD j []) with
       | false =>
        have HA := zH (HKE.out (.inr hbg));rw [hbg] at K2;clear he hbg;generalize aloneTo xs (xs.getD k []) j = al at *;generalize bt (xs.getD j []) = Y at *;go_wp2_with fail
        go_quiet ((go_at_call 85; exact quiet_drawn (K2.out _)))
        go_wp2_with fail
        go_roundw
        case rel => exact ⟨j + 1, by omega, by go_num, by rw [HA.out], _, by rw [HQ.out]; exact World.drewN_drewN _ _ _⟩
        case measure => simp [intOf]; omega
       | true =>
        have HA := zH (HHI.out he hbg);rw [hbg] at K2;clear he hbg;generalize aloneTo xs (xs.getD k []) j = al at *;generalize bt (xs.getD j []) = Y at *;go_wp2_with fail
        go_quiet ((go_at_call 85; exact quiet_drawn (K2.out _)))
        go_wp2_with fail
        go_roundw
        case rel => exact ⟨j + 1, by omega, by go_num, by rw [HA.out], _, by rw [HQ.out]; exact World.drewN_drewN _ _ _⟩
        case measure => simp [intOf]; omega
     ·obtain rfl : j = n := by omega
      obtain ⟨b', o', c', hv', -, -, -, hcj⟩ := HSJ.out.spot (by rw [LN.out]; omega);rw [LN.out] at hv';simp only [Value.slice.injEq, Option.some.injEq, Addr.mk.injEq, and_true, true_and] at hv'
      obtain ⟨⟨rfl, rfl⟩, rfl⟩ := hv';have c3 := hcj k HK.out;unfold tv at c3;rw [HX.out] at c3;clear hcj;have HAL := zH (show aloneTo xs (xs.getD k []) j = alone xs (xs.getD k []) by rw [← LN.out]; exact aloneTo_all _ _);rw [HAL.out];have PY := zH (fun h => pick_yes (f := alone xs) HK.out h);have PN := zH (fun h => pick_no (f := alone xs) HK.out h)
      cases hal : alone xs (xs.getD k []) with
      | true =>
       have HP := zH (PY.out hal);have S2 := zH (S1.out wr);clear hal PY PN;generalize xs.getD k [] = x at HP S2;go_wp2_with (at_builtin; refine wpList_append_texts rfl (.tmp 47) (.tmp 52) rfl w.heap.size rfl (O1.out.alloc _) rfl S2.out (by simp; omega) (by have := G1.out.size; simp; omega) ?_)
       intro v' w1 ho' hgr _;have O2 := zH ho';have G2 : Hid (Below w.heap.size w w1) := zH ((G1.out.alloc G1.out.size _).grown hgr (by have := G1.out.size; simp; omega) (fun j hj => (O1.out.lt j hj).1));clear ho' hgr;rw [HP.out] at O2;go_wp2_with fail
       go_roundw
       case rel => exact ⟨k + 1, by omega, by go_num, O2.out, G2.out, HALL2.out⟩
       case measure => simp [intOf]; omega
      | false =>
       have HP := zH (PN.out hal);clear hal PY PN;rw [HP.out] at O1;go_wp2_with fail
       go_roundw
       case rel => exact ⟨k + 1, by omega, by go_num, O1.out, G1.out, HALL2.out⟩
       case measure => simp [intOf]; omega
  ·obtain rfl : k = n := by omega
   have K := ronce_any HO.out.seq (by omega);rw [← LE.out] at K;have R4 := zH (E4.out HALL.out);have R0 := zH (E0.out HALL.out);generalize least xs = z at *;go_wp2_with fail
   refine K.mono ?_;rintro e w2 ⟨v2, rfl, ho, hb⟩;clear K;obtain ⟨l, hL⟩ : ∃ l, z.length = l := ⟨_, rfl⟩;obtain ⟨a2, c2, rfl, -, -, ho⟩ := ho.at l hL;have O2 := zH (ho.mono HB.out.size);have G2 := zH (HB.out.trans (hb.mono HB.out.size));rw [hL] at R4 R0;clear ho hb hL
   by_cases h8 : 8 < l
   ·obtain ⟨rfl, rfl⟩ := R4.out h8
    have h8' : (8 : Int) < l := by omega
    go_wp2_with fail
    go_ret2
    exact ⟨_, rfl, OwnsT.nil _ _, G2.out⟩
   ·obtain ⟨rfl, rfl⟩ := R0.out h8
    have h8' : ¬ (8 : Int) < l := by omega
    go_wp2_with fail
    go_ret2
    exact ⟨_, rfl, O2.out, G2.out⟩
end Go.Proofs.YtfapkepfngddlaaGreat
