/- What the program's own Do of effects leaves. -/
import Derived.Test.YthcpglbeiibniaaGreatELeft
import Derived.Test.YthcpglbeiibniaaGreatINormI
import Derived.Test.YthcpglbeiibniaaGreatRefE
namespace Go.Proofs.YthcpglbeiibniaaGreat
open Go.RowKit Plain
set_option linter.unusedVariables false

/-- numbers of the model's range, for what a transaction makes -/
def effsOk (node seq : Int) (l : List PEff) : Prop := ∀ e ∈ l, dotOk ⟨node, seq, e.pos⟩ ∧ ∀ d ∈ e.drops, dotOk d
theorem effsOk_of {node seq : Int} {l : List PEff} (h1 : (Lit.int .i64 node).wf = true) (h2 : (Lit.int .i64 seq).wf = true) (h : ∀ e ∈ l, effOk e) : effsOk node seq l := fun e he => ⟨⟨h1, h2, (h e he).1⟩, (h e he).2.2.2.1⟩
theorem mleft_ok {node seq : Int} {l : List PEff} (h : effsOk node seq l) : ∀ x ∈ mleft node seq l, dotOk x.dot := fun x hx => by
  obtain ⟨e, he, rfl⟩ := own_dot (mem_mleft.1 hx)
  exact (h e he).1

set_option maxRecDepth 100000 in
set_option maxHeartbeats 8000000 in
/-- Do -/
theorem edo_any (node seq : Int) {u v : Value} {xs : List PItem} {l : List PEff} {w : World} (hu : SeqE LItem w u xs) (hv : SeqE LEff w v l) (hx : xs.length ≤ 100000) (hn : l.length ≤ 1000) (hd : ∀ e ∈ l, e.drops.length ≤ 1000) (hdx : ∀ x ∈ xs, dotOk x.dot) (hok : effsOk node seq l) :
    Calls Tryz.prog 12 #[u, .int .i64 node, .int .i64 seq, v] w (MadeE LItem w (edo node seq xs l)) := by
  have HU := Lib.hid hu
  have HDK := Lib.hid hdx
  have HMK := Lib.hid (mleft_ok hok)
  have HML := Lib.hid (mleft_len node seq l)
  have HWL := Lib.hid (iwithout_len xs (dropsOf l))
  have HEW := Lib.hid (fun h => edo_way (node := node) (seq := seq) (s := xs) (l := l) h)
  have HDM := Lib.hid (fun k hk => hd _ (mem_defE (l := l) (k := k) hk))
  have HDT := Lib.hid (fun k hk => drops_take (l := l) (k := k) hk)
  have HDL : Hid (∀ k, k ≤ l.length → (dropsOf (l.take k)).length ≤ 1000000) := Lib.hid (fun k hk => by
    have h1 := drops_len (m := 1000) (l := l.take k) fun e he => hd e (List.mem_of_mem_take he)
    have h2 : (l.take k).length ≤ 1000 := by rw [List.length_take]; omega
    have h3 := Nat.mul_le_mul_right 1000 h2
    omega)
  have HDO : Hid (∀ d ∈ dropsOf l, dotOk d) := Lib.hid (fun d h => by
    obtain ⟨e, he, hde⟩ := List.mem_flatMap.1 h
    exact (hok e he).2 d hde)
  have KL := Lib.hid (fun (W : World) (h : Below w.heap.size w W) => eleft_any node seq (hv.below h) hn hd hok)
  have KC := Lib.hid (iclone_any hu (by omega : xs.length ≤ 1000000))
  have KW := Lib.hid (fun (W : World) (zv : Value) (h : Below w.heap.size w W) (hz : SeqE LDot W zv (dropsOf l)) => iwithout_any (hu.below h) hz (by omega) (by have := HDL.out l.length (Nat.le_refl _); rwa [List.take_length] at this) hdx HDO.out)
  have HX := Lib.hid hx
  obtain ⟨a, cap, rfl, g1, g2, g0, h⟩ := hv.parts
  have HS := Lib.hid h
  obtain ⟨a', cap', rfl, -⟩ := hu.parts
  obtain ⟨n, hN⟩ : ∃ n, l.length = n := ⟨_, rfl⟩
  rw [hN] at g1 hn HS HDM HDT HDL HML KL ⊢
  have LN := Lib.hid hN
  have HTA : Hid (l.take n = l) := Lib.hid (by rw [← hN, List.take_length])
  have HT0 : Hid (dropsOf (l.take 0) = []) := Lib.hid rfl
  have HNN : Hid (0 < n → l ≠ []) := Lib.hid (fun h e => by rw [e] at hN; simp at hN; omega)
  have HNZ : Hid (n = 0 → edo node seq xs l = xs) := Lib.hid (fun h => by
    have : l = [] := List.eq_nil_of_length_eq_zero (by omega)
    rw [this]
    rfl)
  clear hu hv h g0 hd hok hdx hN hx
  generalize xs.length = nx at *
  by_cases hn0 : n = 0
  · have q0 : ((n : Int) == 0) = true := by subst hn0; rfl
    have HE := Lib.hid (HNZ.out hn0)
    rw [HE.out]
    clear HE hn0
    go_enter Tryz.func12, Tryz.ntmps12
    go_wp2_with fail
    refine KC.out.mono ?_
    rintro e w1 ⟨v1, rfl, ho, hb⟩
    have O := Lib.hid ho
    have G := Lib.hid hb
    obtain ⟨av, cv, rfl, -⟩ := ho.parts
    clear ho hb
    go_wp2_with fail
    go_ret
    exact ⟨_, rfl, O.out, G.out⟩
  · have q0 : ((n : Int) == 0) = false := beq_false_of_ne (by omega)
    have HE := Lib.hid (HEW.out (HNN.out (by omega)))
    rw [← HE.out]
    clear hn0 HNN HNZ HEW KC
    go_enter Tryz.func12, Tryz.ntmps12
    go_wp2_with fail
    go_loopw [9, 20] (fun z i wr => ∃ k : Nat, k ≤ n ∧ i = .int .i64 k ∧ OwnE LDot w.heap.size wr z (dropsOf (l.take k)) ∧ Below w.heap.size w wr) (fun _ i _ => n - (intOf i).toNat)
    case atStart => exact ⟨0, Nat.zero_le _, rfl, by rw [HT0.out]; exact OwnE.nil _ _, Below.refl _ _⟩
    case round =>
      obtain ⟨k, hk, rfl, ho, hb⟩ := hrel
      have HO := Lib.hid ho
      have HB := Lib.hid hb
      have HLK := Lib.hid (HDL.out k hk)
      clear ho hb
      by_cases hlt : k < n
      · obtain ⟨b, o, c, hv, -, -, -, hc⟩ := effs_spot (HS.out.below HB.out) (by rw [LN.out]; omega)
        rw [LN.out] at hv
        simp only [Value.slice.injEq] at hv
        obtain ⟨rfl, -, rfl⟩ := hv
        have HM := Lib.hid (HDM.out k hlt)
        have HTK := Lib.hid (HDT.out k hlt)
        obtain ⟨dv, EX, hsd⟩ := hc k (by rw [LN.out]; exact hlt)
        obtain ⟨da, dc, rfl, -, -, -, hsd⟩ := hsd.parts
        clear hc
        generalize l.getD k default = x at *
        obtain ⟨c0, c1, c2, c3, c4, c5, c6⟩ := EX
        obtain ⟨m, hM⟩ : ∃ m, x.drops.length = m := ⟨_, rfl⟩
        rw [hM] at hsd c6 HM
        have LM := Lib.hid hM
        clear hM
        have SD := Lib.hid (hsd.below_alloc (.cells #[.int .i64 x.pos, .string (bt x.key), .string (bt x.field), .int .i64 x.kind, .string (bt x.elem), .int .i64 x.n, .slice da m dc] 35))
        have OB := Lib.hid (HO.out.alloc (.cells #[.int .i64 x.pos, .string (bt x.key), .string (bt x.field), .int .i64 x.kind, .string (bt x.elem), .int .i64 x.n, .slice da m dc] 35))
        have GB := Lib.hid (HB.out.alloc HB.out.size (.cells #[.int .i64 x.pos, .string (bt x.key), .string (bt x.field), .int .i64 x.kind, .string (bt x.elem), .int .i64 x.n, .slice da m dc] 35))
        have EB : Hid (EffAt (wr.alloc (.cells #[.int .i64 x.pos, .string (bt x.key), .string (bt x.field), .int .i64 x.kind, .string (bt x.elem), .int .i64 x.n, .slice da m dc] 35)) wr.heap.size 0 x (.slice da m dc)) := Lib.hid (effAt_box wr x da m dc)
        clear hsd
        go_upto_region 7 with fail
        clear c0 c1 c2 c3 c4 c5 c6
        generalize (wr.alloc (.cells #[.int .i64 x.pos, .string (bt x.key), .string (bt x.field), .int .i64 x.kind, .string (bt x.elem), .int .i64 x.n, .slice da m dc] 35)) = wb at *
        obtain ⟨c0, c1, c2, c3, c4, c5, c6⟩ := EB.out.zero
        go_wp2_with (at_builtin; refine wpList_append_el LDot rfl (.tmp 24) (.tmp 26) rfl w.heap.size rfl OB.out rfl SD.out (fun _ _ h => h) (by have := HLK.out; have := HM.out; have := LM.out; omega) GB.out.size ?_)
        intro v' w1 ho' hgr _
        have O2 := Lib.hid ho'
        rw [← HTK.out] at O2
        have G2 : Hid (Below w.heap.size w w1) := Lib.hid (GB.out.grown hgr GB.out.size (fun j hj => (OB.out.lt j hj).1))
        clear ho' hgr c0 c1 c2 c3 c4 c5 c6
        go_wp2_with fail
        go_roundw
        case rel => exact ⟨k + 1, by omega, by go_num, O2.out, G2.out⟩
        case measure => simp [intOf]; omega
      · obtain rfl : k = n := by omega
        rw [HTA.out] at HO
        have K := KW.out wr _ HB.out HO.out.seq
        obtain ⟨az, cz, rfl, -⟩ := HO.out.parts
        go_wp2_with fail
        refine K.mono ?_
        rintro e w2 ⟨v2, rfl, ho, hb⟩
        have G2 := Lib.hid (HB.out.trans (hb.mono HB.out.size))
        have O2 := Lib.hid ho
        have HZ2 : Hid (wr.heap.size ≤ w2.heap.size) := Lib.hid hb.size
        obtain ⟨a2, c2, rfl, -⟩ := ho.parts
        have K3 := KL.out w2 G2.out
        clear ho hb K
        go_wp2_with fail
        refine K3.mono ?_
        rintro e w3 ⟨v3, rfl, ho, hb⟩
        have G3 := Lib.hid (G2.out.trans (hb.mono G2.out.size))
        have O3 := Lib.hid (O2.out.below hb (Nat.le_refl _))
        have S3 := Lib.hid ho.seq
        have HZ : Hid (wr.heap.size ≤ w3.heap.size) := Lib.hid (Nat.le_trans HZ2.out hb.size)
        obtain ⟨a3, c3, rfl, -⟩ := ho.parts
        clear ho hb K3
        go_wp2_with (at_builtin; refine wpList_append_el LItem rfl (.tmp 32) (.tmp 36) rfl wr.heap.size rfl O3.out rfl S3.out (fun _ _ h => h) (by have := HWL.out; have := HML.out; have := HX.out; omega) HZ.out ?_)
        intro v4 w4 ho4 hgr _
        have S4 := Lib.hid ho4.seq
        have G4 : Hid (Below w.heap.size w w4) := Lib.hid (G3.out.grown hgr G3.out.size (fun j hj => Nat.le_trans HB.out.size (O3.out.lt j hj).1))
        have K5 := inorm_any S4.out (by rw [List.length_append]; have := HWL.out; have := HML.out; have := HX.out; omega) (fun x hx => (List.mem_append.1 hx).elim (fun h => HDK.out x (List.mem_filter.1 h).1) (fun h => HMK.out x h))
        obtain ⟨a4, c4, rfl, -⟩ := ho4.parts
        clear ho4 hgr
        generalize inorm (iwithout xs (dropsOf l) ++ mleft node seq l) = rr at *
        generalize (iwithout xs (dropsOf l) ++ mleft node seq l).length = n4 at *
        go_wp2_with fail
        refine K5.mono ?_
        rintro e w5 ⟨v5, rfl, ho, hb⟩
        have O := Lib.hid (ho.mono G4.out.size)
        have G := Lib.hid (G4.out.trans (hb.mono G4.out.size))
        obtain ⟨av, cv, rfl, -⟩ := ho.parts
        clear ho hb K5
        go_wp2_with fail
        go_ret
        exact ⟨_, rfl, O.out, G.out⟩
end Go.Proofs.YthcpglbeiibniaaGreat
