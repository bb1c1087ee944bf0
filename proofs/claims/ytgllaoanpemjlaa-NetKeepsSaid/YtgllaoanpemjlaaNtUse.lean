/- Stage 18's walks: the laws' own function awake; boxes of networks and packets. -/
import Derived.Test.YtgllaoanpemjlaaNtTake
import Derived.Lib.SlBytesConst
namespace Go.Proofs.Ytgllaoanpemjlaa
open Go.RowKit Plain
set_option linter.unusedVariables false

/-- a block that holds a variable -/
structure NtB (u : World) (g : Nat) (cs : Array Value) (t : TypeId) : Prop where
  blk : u.heap[g]? = some (.cells cs t (0, 0))
theorem NtB.lt {u : World} {g : Nat} {cs : Array Value} {t : TypeId} (h : NtB u g cs t) : g < u.heap.size := (Array.getElem?_eq_some_iff.1 h.blk).1
theorem NtB.below {u u' : World} {g : Nat} {cs : Array Value} {t : TypeId} (h : NtB u g cs t) (hb : Below u.heap.size u u') : NtB u' g cs t := ⟨(hb.block g h.lt).trans h.blk⟩
theorem NtB.net {u : World} {g : Nat} {v : Value} {t : TypeId} (h : NtB u g #[v] t) : u.cell? ⟨g, 0, none⟩ = some v := (box_bare h.blk 0).1
theorem NtB.pkt {u : World} {g : Nat} {a b c : Value} {t : TypeId} (h : NtB u g #[a, b, c] t) : u.cell? ⟨g, 0, none⟩ = some a ∧ u.cell? ⟨g, 1, none⟩ = some b ∧ u.cell? ⟨g, 2, none⟩ = some c := ⟨(box_bare h.blk 0).1, (box_bare h.blk 1).1, (box_bare h.blk 2).1⟩
theorem ntb_new (u : World) (cs : Array Value) (t : TypeId) : NtB (u.alloc (.cells cs t)) u.heap.size cs t := ⟨heap_alloc_new u _⟩
theorem npair_heap (w : World) (X Y : Array Value) (t u : TypeId) :
    NtB ((w.alloc (.cells X t)).alloc (.cells Y u)) w.heap.size X t ∧ NtB ((w.alloc (.cells X t)).alloc (.cells Y u)) (w.heap.size + 1) Y u := by
  have s1 : (w.alloc (.cells X t)).heap.size = w.heap.size + 1 := by simp
  have h2 := heap_alloc_new (w.alloc (.cells X t)) (.cells Y u)
  rw [s1] at h2
  exact ⟨(ntb_new w X t).below ((Below.refl _ _).alloc (Nat.le_refl _) _), ⟨h2⟩⟩
theorem by_litF (w : World) (xs : Bytes) (C : Array Value) (fr : Nat × Nat) (hC : C.toList = xs.map By.bv) (hl : xs.length ≤ 1000000) : By.Seq (w.alloc (.cells C 5 fr)) (.slice (some ⟨w.heap.size, 0, none⟩) xs.length xs.length) xs := by
  refine ⟨_, xs.length, rfl, Nat.le_refl _, by unfold maxLen; omega, (by simp), fun hp => ⟨w.heap.size, 0, rfl, fun j hj => ?_⟩⟩
  have h : (w.alloc (.cells C 5 fr)).cell? ⟨w.heap.size, 0 + j, none⟩ = C[0 + j]? := cell_of_row _ w.heap.size (0 + j) _ 5 fr (heap_alloc_new w _)
  rw [Nat.zero_add] at h ⊢
  rw [h, ← Array.getElem?_toList, hC, List.getElem?_map]
  simp [List.getD, List.getElem?_eq_getElem hj]
set_option maxRecDepth 100000 in
set_option maxHeartbeats 4000000 in
/-- awake -/
theorem ntawake_any (w : World) : Calls Try.prog 6 #[] w (GivesB w true) := by
  have kc := fun (w : World) (C : Array Value) (n c : Nat) => Lib.run_convert_bytes_const (P := Try.prog) w 25 5 C n c Try.underlying25 Try.underlying5
  have K1 : Hid (∀ fr, Calls Try.prog 9 #[.agg #[.slice none 0 0], .int .i64 1, .int .i64 2, .slice (some ⟨w.heap.size, 0, none⟩) 1 1] (w.alloc (.cells #[.int .u8 120] 5 fr)) (MadeNE (fun w b => w.heap.size ≤ b) (w.alloc (.cells #[.int .u8 120] 5 fr)) [⟨1, 2, [120#8]⟩] 0)) := Lib.hid (fun fr => ntsendP (xs := []) ⟨_, rfl, SeqE.nil _⟩ (of_by (by_litF w [120#8] #[.int .u8 120] fr rfl (by decide))) (by decide) (fun x h => by cases h) (by decide))
  have B0 : Hid (∀ fr, Below w.heap.size w (w.alloc (.cells #[.int .u8 120] 5 fr))) := Lib.hid (fun fr => (Below.refl _ _).alloc (Nat.le_refl _) _)
  go_enter Try.func6, Try.ntmps6
  go_wp2_with fail
  refine (K1.out _).mono ?_
  rintro e w1 ⟨v1, rfl, ho1, hb1⟩
  obtain ⟨a1, c1, rfl, -, -, ho1⟩ := ho1.own.at 1 rfl
  have G1 := Lib.hid ((B0.out _).trans (hb1.mono (B0.out _).size))
  have S1 := Lib.hid ho1.seq
  clear ho1 hb1 K1 B0
  have hb := (Below.refl w1.heap.size w1).alloc (Nat.le_refl _) (.cells #[.slice a1 1 c1] 24)
  have X1 := Lib.hid (ntb_new w1 #[.slice a1 1 c1] 24)
  have KT : Hid (Calls Try.prog 12 #[.agg #[.slice a1 1 c1], .int .i64 0] (w1.alloc (.cells #[.slice a1 1 c1] 24)) (GivesTk (w1.alloc (.cells #[.slice a1 1 c1] 24)) ⟨1, 2, [120#8]⟩ [] 0)) := Lib.hid (nttakeP (i := 0) ⟨_, rfl, S1.out.below hb⟩ (by decide) (by decide) (fun x h => by rw [List.mem_singleton.1 h]; decide))
  replace G1 := Lib.hid (G1.out.trans (hb.mono G1.out.size))
  clear hb S1
  go_upto_region 2 with fail
  generalize hg1 : w1.heap.size = g1 at X1 ⊢
  generalize (w1.alloc (.cells #[.slice a1 1 c1] 24)) = w2 at *
  have x1 := X1.out.net
  go_wp2_with fail
  refine KT.out.mono ?_
  rintro e w3 ⟨bv, sv, rfl, hbv, hsv, hb3⟩
  obtain ⟨a3, c3, rfl, -, -, hsv⟩ := hsv.own.at 0 rfl
  obtain ⟨b3, d3, rfl, -, -, -, hbv⟩ := SeqE.parts (L := LByte) (hbv.mono fun b hb => hb.2)
  clear x1 hsv
  replace X1 := Lib.hid (X1.out.below hb3)
  replace G1 := Lib.hid (G1.out.trans (hb3.mono G1.out.size))
  have hb4 := ((Below.refl w3.heap.size w3).alloc (Nat.le_refl _) (.cells #[.int .i64 1, .int .i64 2, .slice b3 1 d3] 27))
  have X2 := Lib.hid (ntb_new w3 #[.int .i64 1, .int .i64 2, .slice b3 1 d3] 27)
  replace X1 := Lib.hid (X1.out.below hb4)
  replace G1 := Lib.hid (G1.out.trans (hb4.mono G1.out.size))
  have BV := Lib.hid (hbv.below hb4)
  have ZZ : Hid ((w3.alloc (.cells #[.int .i64 1, .int .i64 2, .slice b3 1 d3] 27)).heap.size = w3.heap.size + 1) := Lib.hid (by simp)
  clear hb3 hb4 hbv
  go_upto_region 3 with fail
  generalize (w3.alloc (.cells #[.int .i64 1, .int .i64 2, .slice b3 1 d3] 27)) = w4 at *
  generalize hg3 : w3.heap.size = g3 at *
  have hb5 := (Below.refl w4.heap.size w4).alloc (Nat.le_refl _) (.cells #[.slice a3 0 c3] 24)
  have X3 := Lib.hid (ntb_new w4 #[.slice a3 0 c3] 24)
  rw [ZZ.out] at X3
  replace X1 := Lib.hid (X1.out.below hb5)
  replace X2 := Lib.hid (X2.out.below hb5)
  replace G1 := Lib.hid (G1.out.trans (hb5.mono G1.out.size))
  have TX := Lib.hid (By.text_run (by_of (BV.out.below hb5)))
  clear hb5 BV
  generalize (w4.alloc (.cells #[.slice a3 0 c3] 24)) = w5 at *
  have x1 := X1.out.net
  have x3 := X3.out.net
  obtain ⟨y0, y1, y2⟩ := X2.out.pkt
  have tx := TX.out
  have ts : sb [120#8] = ⟨#[120]⟩ := by decide
  simp only [List.length_cons, List.length_nil, Nat.zero_add, ts] at tx
  go_wp2_with fail
  go_ret
  exact ⟨rfl, G1.out⟩
/-- bytes don't lie in a variable that holds a list -/
theorem bytes_apart {u : World} {v : Value} {xs : Bytes} {g : Nat} {t : TypeId} {za : Option Addr} {zn zc : Nat} {P : Nat → Prop} (h : Sq LByte P u v xs) (hg : NtB u g #[.slice za zn zc] t) : Sq LByte (fun b => P b ∧ b ≠ g) u v xs := by
  obtain ⟨a, cap, vals, e, h1, h2, h0, hr, h3⟩ := h
  refine ⟨a, cap, vals, e, h1, h2, h0, ⟨hr.1, hr.2⟩, fun hp => ?_⟩
  obtain ⟨b, off, ha, hb, hc⟩ := h3 hp
  refine ⟨b, off, ha, ⟨hb, fun e => ?_⟩, hc⟩
  subst e
  have hl : vals.length = xs.length := by rw [hr.1]; exact Nat.mul_one _
  have hx : xs[0]? = some (xs[0]'hp) := List.getElem?_eq_getElem hp
  have h5 : pt 1 vals 0 = [By.bv (xs[0]'hp)] := hr.2 0 _ hx
  have h6 : vals[0]? = some (By.bv (xs[0]'hp)) := by
    have := pt_get (k := 1) vals 0 0 (by omega)
    rw [h5] at this
    simpa using this.symm
  have h7 := hc 0 _ h6
  rw [(box_bare hg.blk (off + 0)).1] at h7
  match off, h7 with
  | 0, h7 => simp [By.bv] at h7
  | off + 1, h7 => simp at h7
/-- packets don't lie in a variable that holds a list -/
theorem pkts_apart {u : World} {v : Value} {xs : List PPkt} {g : Nat} {t : TypeId} {za : Option Addr} {zn zc : Nat} {P : Nat → Prop} (h : Sq LPkt P u v xs) (hg : NtB u g #[.slice za zn zc] t) : Sq LPkt (fun b => P b ∧ b ≠ g) u v xs := by
  obtain ⟨a, cap, vals, e, h1, h2, h0, hr, h3⟩ := h
  refine ⟨a, cap, vals, e, h1, h2, h0, ⟨hr.1, fun j x hj => ?_⟩, fun hp => ?_⟩
  · obtain ⟨bv, e, hd⟩ := hr.2 j x hj
    exact ⟨bv, e, bytes_apart hd hg⟩
  · obtain ⟨b, off, ha, hb, hc⟩ := h3 hp
    refine ⟨b, off, ha, ⟨hb, fun e => ?_⟩, hc⟩
    subst e
    have hl : vals.length = xs.length * 3 := hr.1
    have h6 := hc 1 _ (List.getElem?_eq_getElem (show 1 < vals.length by omega))
    rw [(box_bare hg.blk (off + 1)).1] at h6
    simp at h6
/-- packets stand when a variable that holds a list of them is stored into -/
theorem seq_setNet {u : World} {v x : Value} {xs : List PPkt} {g : Nat} {t : TypeId} {za : Option Addr} {zn zc : Nat} (h : SeqE LPkt u v xs) (hg : NtB u g #[.slice za zn zc] t) : SeqE LPkt (u.setCell ⟨g, 0, none⟩ x) v xs :=
  ((pkts_apart h hg).agree fun b hb => Below.heap_setCell _ _ _ _ hb.2).mono fun b hb => by simpa [World.setCell] using hb.1
/-- Take, where there is no such packet, plainly -/
theorem nttakeNo {v : Value} {xs : List PPkt} {i : Int} {w : World} (hv : IsNet w v xs) (hi : ¬ (0 ≤ i ∧ i < xs.length)) : Calls Try.prog 12 #[v, .int .i64 i] w (fun e w' => ∃ bv sv, e = .returned (.tuple #[.agg #[.int .i64 0, .int .i64 0, bv], .agg #[sv], .int .i64 10]) ∧ SeqE LByte w' bv [] ∧ SeqE LPkt w' sv [] ∧ Below w.heap.size w w') :=
  (nttakeNone hv hi).mono fun _ _ ⟨bv, sv, e, h1, h2, h3⟩ => ⟨bv, sv, e, h1.mono fun b hb => hb.2, h2.own.seq, h3⟩
end Go.Proofs.Ytgllaoanpemjlaa
