/- What the document's own Closed of a past's list leaves. (Written by gen-ref16.py.) -/
import Derived.Test.YtajfliemmfdnhaaPaRef
import Derived.Test.YtajfliemmfdnhaaVcAll
import Derived.Test.YtajfliemmfdnhaaOrChns
namespace Go.Proofs.Ytajfliemmfdnhaa
open Go.RowKit Plain
set_option linter.unusedVariables false


theorem closed_no {l : List PTxn} {v : Ints} {k : Nat} (hk : k < l.length) (h1 : pHeard v (otx l k) = true) (h2 : within (otx l k).deps v = false) : pClosedB l v = false := by
 unfold pClosedB
 rw [List.all_eq_false]
 exact ⟨otx l k, by rw [otx_lt hk]; exact List.getElem_mem hk, by rw [h1, h2]; decide⟩
theorem closed_yes {l : List PTxn} {v : Ints} (h : ∀ j, j < l.length → pHeard v (otx l j) = true → within (otx l j).deps v = true) : pClosedB l v = true := by
 unfold pClosedB
 rw [List.all_eq_true]
 intro t ht
 obtain ⟨j, hj, rfl⟩ := List.getElem_of_mem ht
 have := h j hj
 rw [otx_lt hj] at this
 cases e : pHeard v l[j] with
 | false => rfl
 | true => simpa using this e
set_option maxRecDepth 100000 in
set_option maxHeartbeats 8000000 in
theorem closed_any {lv vv : Value} {l : List PTxn} {v : Ints} {w : World} (hlv : SeqE LTxn w lv l) (hv : SeqI w vv v) (hl : l.length ≤ 1000000) (hvl : v.length ≤ 1000000) (hd : ∀ t ∈ l, t.deps.length ≤ 1000000) : Calls Try.prog 10 #[lv, vv] w (GivesB w (pClosedB l v)) := by
 have HNO := Lib.hid (fun k hk => closed_no (l := l) (v := v) (k := k) hk)
 have HYES := Lib.hid (fun h => closed_yes (l := l) (v := v) h)
 obtain ⟨la, lc, rfl, L1, L2, -, -⟩ := hlv.parts
 obtain ⟨va, vc, rfl, -⟩ := hv.parts
 have HL := Lib.hid hlv
 have HV := Lib.hid hv
 have HD := Lib.hid hd
 have HVL := Lib.hid hvl
 obtain ⟨n, hn⟩ : ∃ n, n = l.length := ⟨_, rfl⟩
 have HN := Lib.hid hn
 rw [← hn] at HL HNO HYES L1 ⊢
 have i1 : (n : Int) ≤ lc := by omega
 have i2 : (lc : Int) ≤ 9223372036854775807 := by omega
 clear hlv hv hd hn hl hvl L1 L2
 generalize pClosedB l v = r at *
 obtain ⟨vn, hvn⟩ : ∃ n, n = v.length := ⟨_, rfl⟩
 rw [← hvn] at HV ⊢
 clear hvn
 go_enter Try.func10, Try.ntmps10
 go_wp2_with fail
 go_loopw [5] (fun i wr => ∃ k : Nat, k ≤ n ∧ i = .int .i64 k ∧ Aside ((∀ j, j < k → pHeard v (otx l j) = true → within (otx l j).deps v = true) ∧ Below w.heap.size w wr)) (fun i _ => n - (intOf i).toNat)
 case atStart => exact ⟨0, Nat.zero_le _, rfl, fun j hj => absurd hj (Nat.not_lt_zero _), Below.refl _ _⟩
 case round =>
  obtain ⟨k, hk, rfl, hrel⟩ := hrel
  obtain ⟨h1, h2⟩ := Aside.out hrel
  have HA := Lib.hid h1
  have GB := Lib.hid h2
  clear hrel h1 h2
  by_cases hlt : k < n
  ·obtain ⟨lb, lo, rfl, hc⟩ := txns_at HL.out (by omega)
   obtain ⟨da, dn, dc, ea, en, ec, hW⟩ := hc k hlt
   have HX : Hid ((pHeard v (otx l k) = true → within (otx l k).deps v = true) → ∀ j, j < k + 1 → pHeard v (otx l j) = true → within (otx l j).deps v = true) := Lib.hid (fun h j hj => by
    by_cases e : j = k
    ·rw [e]; exact h
    ·exact HA.out j (by omega))
   have HNK := Lib.hid (HNO.out k hlt)
   have HDK := Lib.hid (HD.out (otx l k) (by rw [otx_lt (by rw [← HN.out]; exact hlt)]; exact List.getElem_mem _))
   have KH := Lib.hid (rheardT_any (HV.out.below GB.out) (hW wr GB.out).2)
   have HC := Lib.hid (fun W (hb : Below w.heap.size w W) => hW W hb)
   have k1 : (k : Int) < n := by omega
   clear hc hW
   generalize otx l k = t at *
   obtain ⟨⟨c0, c1, c2, c3⟩, -⟩ := HC.out wr GB.out
   obtain ⟨b, hb⟩ : ∃ b, b = pHeard v t := ⟨_, rfl⟩
   rw [← hb] at KH HX HNK
   clear hb
   go_wp2_with fail
   refine KH.out.mono ?_
   rintro e w2 ⟨rfl, hb⟩
   have G2 := Lib.hid (GB.out.trans (hb.mono GB.out.size))
   clear hb KH c0 c1 c2 c3
   cases b with
   | false =>
    have HX2 := Lib.hid (HX.out (fun h => by cases h))
    go_wp2_with fail
    go_roundw
    case rel => exact ⟨k + 1, by omega, by go_num, HX2.out, G2.out⟩
    case measure => simp [intOf]; omega
   | true =>
    obtain ⟨⟨c0, c1, c2, c3⟩, IT⟩ := HC.out w2 G2.out
    obtain ⟨da', dn', dc', ea', en', ec', he, s1, s2⟩ := IT.parts
    simp only [Value.agg.injEq, Array.mk.injEq, List.cons.injEq, and_true, true_and] at he
    obtain ⟨e1, e2⟩ := he
    rw [← e1] at s1
    have KW := Lib.hid (vc_rwithin_any (seqI_of s1) (HV.out.below G2.out) HDK.out HVL.out)
    clear IT s1 s2 e1 e2
    obtain ⟨b2, hb2⟩ : ∃ b, b = within t.deps v := ⟨_, rfl⟩
    rw [← hb2] at KW HX HNK
    clear hb2
    go_wp2_with fail
    refine KW.out.mono ?_
    rintro e w3 ⟨rfl, hb⟩
    have G3 := Lib.hid (G2.out.trans (hb.mono G2.out.size))
    clear hb KW c0 c1 c2 c3
    cases b2 with
    | false =>
     obtain rfl : r = false := HNK.out (by decide) (by decide)
     go_wp2_with fail
     go_ret
     exact ⟨rfl, G3.out⟩
    | true =>
     have HX2 := Lib.hid (HX.out (fun _ => by decide))
     go_wp2_with fail
     go_roundw
     case rel => exact ⟨k + 1, by omega, by go_num, HX2.out, G3.out⟩
     case measure => simp [intOf]; omega
  ·obtain rfl : k = n := by omega
   obtain rfl : r = true := HYES.out HA.out
   go_wp2_with fail
   go_ret
   exact ⟨rfl, GB.out⟩
theorem closedR {lv vv : Value} {l : List PTxn} {v : Ints} {w : World} (hlv : SeqE LTxn w lv l) (hv : SeqI w vv v) (hl : l.length ≤ 1000000) (hvl : v.length ≤ 1000000) (hd : ∀ t ∈ l, t.deps.length ≤ 1000000) (r : Bool) (hr : pClosedB l v = r) : Calls Try.prog 10 #[lv, vv] w (GivesB w r) := by
 rw [← hr]
 exact closed_any hlv hv hl hvl hd
end Go.Proofs.Ytajfliemmfdnhaa
