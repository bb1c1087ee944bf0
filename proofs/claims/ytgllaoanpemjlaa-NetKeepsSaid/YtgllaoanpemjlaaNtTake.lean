/- The program's own Take of networks. (Written by gen-nttake.py.) -/
import Derived.Test.YtgllaoanpemjlaaNtTwice
namespace Go.Proofs.Ytgllaoanpemjlaa
open Go.RowKit Plain
set_option linter.unusedVariables false

theorem take_boxes (w : World) (a : Option Addr) (n cap : Nat) : Below w.heap.size w (((w.alloc (.cells #[.slice a n cap] 24)).alloc (.cells #[.int .i64 0, .int .i64 0, .slice none 0 0] 27)).alloc (.cells #[.slice none 0 0] 24)) ∧ (((w.alloc (.cells #[.slice a n cap] 24)).alloc (.cells #[.int .i64 0, .int .i64 0, .slice none 0 0] 27)).alloc (.cells #[.slice none 0 0] 24)).cell? ⟨w.heap.size, 0, none⟩ = some (.slice a n cap) ∧
    (((w.alloc (.cells #[.slice a n cap] 24)).alloc (.cells #[.int .i64 0, .int .i64 0, .slice none 0 0] 27)).alloc (.cells #[.slice none 0 0] 24)).heap[w.heap.size + 1]? = some (.cells #[.int .i64 0, .int .i64 0, .slice none 0 0] 27 (0, 0)) ∧ (((w.alloc (.cells #[.slice a n cap] 24)).alloc (.cells #[.int .i64 0, .int .i64 0, .slice none 0 0] 27)).alloc (.cells #[.slice none 0 0] 24)).heap[w.heap.size + 2]? = some (.cells #[.slice none 0 0] 24 (0, 0)) ∧ (((w.alloc (.cells #[.slice a n cap] 24)).alloc (.cells #[.int .i64 0, .int .i64 0, .slice none 0 0] 27)).alloc (.cells #[.slice none 0 0] 24)).heap.size = w.heap.size + 3 := by
  have B1 : Below w.heap.size w (w.alloc (.cells #[.slice a n cap] 24)) := (Below.refl _ _).alloc (Nat.le_refl _) _
  have s1 : (w.alloc (.cells #[.slice a n cap] 24)).heap.size = w.heap.size + 1 := by simp
  have s2 : ((w.alloc (.cells #[.slice a n cap] 24)).alloc (.cells #[.int .i64 0, .int .i64 0, .slice none 0 0] 27)).heap.size = w.heap.size + 2 := by simp
  have e1 := World.cell?_alloc_new w #[.slice a n cap] 24 0
  have h2 : Below (w.heap.size + 1) (w.alloc (.cells #[.slice a n cap] 24)) ((w.alloc (.cells #[.slice a n cap] 24)).alloc (.cells #[.int .i64 0, .int .i64 0, .slice none 0 0] 27)) := (Below.refl _ _).alloc (by rw [s1]; exact Nat.le_refl _) _
  have h3 : Below (w.heap.size + 2) ((w.alloc (.cells #[.slice a n cap] 24)).alloc (.cells #[.int .i64 0, .int .i64 0, .slice none 0 0] 27)) (((w.alloc (.cells #[.slice a n cap] 24)).alloc (.cells #[.int .i64 0, .int .i64 0, .slice none 0 0] 27)).alloc (.cells #[.slice none 0 0] 24)) := (Below.refl _ _).alloc (by rw [s2]; exact Nat.le_refl _) _
  have b2 : ((w.alloc (.cells #[.slice a n cap] 24)).alloc (.cells #[.int .i64 0, .int .i64 0, .slice none 0 0] 27)).heap[w.heap.size + 1]? = some (.cells #[.int .i64 0, .int .i64 0, .slice none 0 0] 27 (0, 0)) := by rw [← s1]; exact heap_alloc_new (w.alloc (.cells #[.slice a n cap] 24)) _
  have b3 : (((w.alloc (.cells #[.slice a n cap] 24)).alloc (.cells #[.int .i64 0, .int .i64 0, .slice none 0 0] 27)).alloc (.cells #[.slice none 0 0] 24)).heap[w.heap.size + 2]? = some (.cells #[.slice none 0 0] 24 (0, 0)) := by rw [← s2]; exact heap_alloc_new ((w.alloc (.cells #[.slice a n cap] 24)).alloc (.cells #[.int .i64 0, .int .i64 0, .slice none 0 0] 27)) _
  have h23 : Below (w.heap.size + 1) (w.alloc (.cells #[.slice a n cap] 24)) (((w.alloc (.cells #[.slice a n cap] 24)).alloc (.cells #[.int .i64 0, .int .i64 0, .slice none 0 0] 27)).alloc (.cells #[.slice none 0 0] 24)) := h2.trans (h3.mono (by omega))
  exact ⟨B1.trans (h23.mono (by omega)), (h23.cell (p := ⟨w.heap.size, 0, none⟩) (show w.heap.size < w.heap.size + 1 by omega)).trans e1, (h3.block (w.heap.size + 1) (by omega)).trans b2, b3, by simp⟩
def out4 (u : World) (gp gq : Nat) (x y z s : Value) : World := (((u.setCell ⟨gp, 0, none⟩ x).setCell ⟨gp, 1, none⟩ y).setCell ⟨gp, 2, none⟩ z).setCell ⟨gq, 0, none⟩ s
theorem box_bare {u : World} {g : Nat} {C : Array Value} {t : TypeId} (h : u.heap[g]? = some (.cells C t (0, 0))) (i : Nat) : u.cell? ⟨g, i, none⟩ = C[i]? ∧ u.frozen? ⟨g, i, none⟩ = false := by
  constructor
  · simp [World.cell?, h]
  · unfold World.frozen?
    rw [h]
    simp
theorem take_out {u : World} {gp gq : Nat} {z0 z1 z2 z3 : Value} {tp tq : TypeId} (hne : gp ≠ gq) (hp : u.heap[gp]? = some (.cells #[z0, z1, z2] tp (0, 0))) (hq : u.heap[gq]? = some (.cells #[z3] tq (0, 0))) (x y z s : Value) :
    ((out4 u gp gq x y z s).cell? ⟨gp, 0, none⟩ = some x ∧ (out4 u gp gq x y z s).cell? ⟨gp, 1, none⟩ = some y ∧ (out4 u gp gq x y z s).cell? ⟨gp, 2, none⟩ = some z ∧ (out4 u gp gq x y z s).cell? ⟨gq, 0, none⟩ = some s) ∧ (out4 u gp gq x y z s).heap.size = u.heap.size ∧ (∀ b, b ≠ gp → b ≠ gq → (out4 u gp gq x y z s).heap[b]? = u.heap[b]?) ∧ (∀ B, B ≤ gp → B ≤ gq → Below B u (out4 u gp gq x y z s)) := by
  have h1 := heap_setCell_same u gp 0 _ _ x hp
  have h2 := heap_setCell_same _ gp 1 _ _ y h1
  have h3 := heap_setCell_same _ gp 2 _ _ z h2
  have h4 : (out4 u gp gq x y z s).heap[gp]? = _ := (Below.heap_setCell _ _ _ _ (show gp ≠ (⟨gq, 0, none⟩ : Addr).block from hne)).trans h3
  have e : ∀ (u : World) (i : Nat) (x : Value) k, k ≠ gp → (u.setCell ⟨gp, i, none⟩ x).heap[k]? = u.heap[k]? := fun u i x k hk => Below.heap_setCell _ _ _ _ hk
  have q3 := ((e _ 2 z gq hne.symm).trans ((e _ 1 y gq hne.symm).trans (e u 0 x gq hne.symm))).trans hq
  have h5 : (out4 u gp gq x y z s).heap[gq]? = _ := heap_setCell_same _ gq 0 _ _ s q3
  refine ⟨⟨?_, ?_, ?_, ?_⟩, by simp [out4, World.setCell], fun b h1 h2 => (Below.heap_setCell _ _ _ _ (show b ≠ (⟨gq, 0, none⟩ : Addr).block from h2)).trans ((e _ _ _ b h1).trans ((e _ _ _ b h1).trans (e _ _ _ b h1))), fun B h1 h2 => ((((Below.refl B u).setCell (p := ⟨gp, 0, none⟩) h1 x).setCell (p := ⟨gp, 1, none⟩) h1 y).setCell (p := ⟨gp, 2, none⟩) h1 z).setCell (p := ⟨gq, 0, none⟩) h2 s⟩
  · simp [World.cell?, h4]
  · simp [World.cell?, h4]
  · simp [World.cell?, h4]
  · simp [World.cell?, h5]
/-- what Take answers -/
def GivesTk (w : World) (p : PPkt) (xs : List PPkt) (er : Int) (e : Ending) (w' : World) : Prop := ∃ bv sv, e = .returned (.tuple #[.agg #[.int .i64 p.frm, .int .i64 p.to, bv], .agg #[sv], .int .i64 er]) ∧ Sq LByte (fun b => w.heap.size ≤ b ∧ b < w'.heap.size) w' bv p.bytes ∧ OwnJ (fun b => w.heap.size ≤ b) LPkt w.heap.size w' sv xs ∧ Below w.heap.size w w'
theorem nil_bytes (P : Nat → Prop) (w : World) : Sq LByte P w (.slice none 0 0) [] := ⟨none, 0, [], rfl, Nat.zero_le _, Nat.zero_le _, fun _ => rfl, Rows.nil _ _, fun h => absurd h (by simp)⟩
set_option maxRecDepth 100000 in
set_option maxHeartbeats 4000000 in
/-- Take, where there is no such packet -/
theorem nttakeNone {v : Value} {xs : List PPkt} {i : Int} {w : World} (hv : IsNet w v xs) (hi : ¬ (0 ≤ i ∧ i < xs.length)) : Calls Try.prog 12 #[v, .int .i64 i] w (GivesTk w ⟨0, 0, []⟩ [] 10) := by
  obtain ⟨v, rfl, hv⟩ := hv
  obtain ⟨a, cap, rfl, g1, g2, -, h⟩ := hv.parts
  obtain ⟨G, c0, hp, hq, hz⟩ := take_boxes w a xs.length cap
  have KH := Lib.hid (nthas_any ⟨_, rfl, h.below G⟩ i false (decide_eq_false hi))
  clear hi
  generalize xs.length = n at *
  have HG := Lib.hid G
  have ZH := Lib.hid hz
  have C0 := Lib.hid c0
  have HP := Lib.hid hp
  have HQ := Lib.hid hq
  clear hv h G hz c0 hp hq
  go_enter Try.func12, Try.ntmps12
  go_upto_region 1 with fail
  generalize (((w.alloc (.cells #[.slice a n cap] 24)).alloc (.cells #[.int .i64 0, .int .i64 0, .slice none 0 0] 27)).alloc (.cells #[.slice none 0 0] 24)) = w1 at *
  have c0 := C0.out
  go_wp2_with fail
  refine KH.out.mono ?_
  rintro e w2 ⟨rfl, hb2⟩
  clear c0
  have G2 := Lib.hid (HG.out.trans (hb2.mono HG.out.size))
  have hp := (hb2.block (w.heap.size + 1) (by rw [ZH.out]; omega)).trans HP.out
  have hq := (hb2.block (w.heap.size + 2) (by rw [ZH.out]; omega)).trans HQ.out
  have TO := Lib.hid (take_out (show w.heap.size + 1 ≠ w.heap.size + 2 by omega) hp hq (.int .i64 0) (.int .i64 0) (.slice none 0 0) (.slice none 0 0))
  obtain ⟨p0, f0⟩ := box_bare hp 0
  obtain ⟨p1, f1⟩ := box_bare hp 1
  obtain ⟨p2, f2⟩ := box_bare hp 2
  obtain ⟨q0, r0⟩ := box_bare hq 0
  simp only [List.getElem?_toArray, List.getElem?_cons_zero, List.getElem?_cons_succ] at p0 p1 p2 q0
  clear hb2 KH hp hq
  go_wp2_with fail
  obtain ⟨⟨E0, E1, E2, E3⟩, -, -, EB⟩ := TO.out
  unfold out4 at E0 E1 E2 E3 EB
  exact bodyPost_ret (v := .tuple #[.agg #[.int .i64 0, .int .i64 0, .slice none 0 0], .agg #[.slice none 0 0], .int .i64 10]) (by simp [results, Try.results12, go_sem, E0, E1, E2, E3]) rfl ⟨_, _, rfl, nil_bytes _ _, OwnJ.nil _ _ _, G2.out.trans ((EB w.heap.size (by omega) (by omega)).mono (Nat.le_refl _))⟩
def put3 (u : World) (g : Nat) (x y z : Value) : World := ((u.setCell ⟨g, 0, none⟩ x).setCell ⟨g, 1, none⟩ y).setCell ⟨g, 2, none⟩ z
theorem put3_out {u : World} {gp gq : Nat} {z0 z1 z2 z3 : Value} {tp tq : TypeId} (hne : gp ≠ gq) (hp : u.heap[gp]? = some (.cells #[z0, z1, z2] tp (0, 0))) (hq : u.heap[gq]? = some (.cells #[z3] tq (0, 0))) (x y z : Value) :
    (put3 u gp x y z).heap[gp]? = some (.cells #[x, y, z] tp (0, 0)) ∧ (put3 u gp x y z).heap[gq]? = some (.cells #[z3] tq (0, 0)) ∧ (put3 u gp x y z).heap.size = u.heap.size ∧ (∀ b, b ≠ gp → (put3 u gp x y z).heap[b]? = u.heap[b]?) ∧ (∀ B, B ≤ gp → Below B u (put3 u gp x y z)) := by
  have h1 := heap_setCell_same u gp 0 _ _ x hp
  have h2 := heap_setCell_same _ gp 1 _ _ y h1
  have h3 := heap_setCell_same _ gp 2 _ _ z h2
  have e : ∀ (u : World) (i : Nat) (x : Value) k, k ≠ gp → (u.setCell ⟨gp, i, none⟩ x).heap[k]? = u.heap[k]? := fun u i x k hk => Below.heap_setCell _ _ _ _ hk
  have q3 := ((e _ 2 z gq hne.symm).trans ((e _ 1 y gq hne.symm).trans (e u 0 x gq hne.symm))).trans hq
  exact ⟨h3, q3, by simp [put3, World.setCell], fun b h1 => ((e _ _ _ b h1).trans ((e _ _ _ b h1).trans (e _ _ _ b h1))), fun B h1 => (((Below.refl B u).setCell (p := ⟨gp, 0, none⟩) h1 x).setCell (p := ⟨gp, 1, none⟩) h1 y).setCell (p := ⟨gp, 2, none⟩) h1 z⟩
set_option maxRecDepth 100000 in
set_option maxHeartbeats 16000000 in
/-- Take -/
theorem nttakeP {v : Value} {xs : List PPkt} {i : Nat} {w : World} (hv : IsNet w v xs) (hn : xs.length ≤ 1000000) (hi : i < xs.length) (hx : ∀ x ∈ xs, x.bytes.length ≤ 1000000) : Calls Try.prog 12 #[v, .int .i64 i] w (GivesTk w (pk xs i) (xs.eraseIdx i) 0) := by
  obtain ⟨v, rfl, hv⟩ := hv
  obtain ⟨a, cap, rfl, g1, g2, -, h⟩ := hv.parts
  obtain ⟨G, c0, hp, hq, hz⟩ := take_boxes w a xs.length cap
  have KH := Lib.hid (nthas_any ⟨_, rfl, h.below G⟩ i true (decide_eq_true ⟨by omega, by omega⟩))
  have HB := Lib.hid (pk_bytes hi hx)
  have HX := Lib.hid hx
  have XE : Hid (xs.eraseIdx i = xs.take i ++ xs.drop (i + 1)) := Lib.hid (List.eraseIdx_eq_take_drop_succ _ _)
  obtain ⟨n, hN⟩ : ∃ n, xs.length = n := ⟨_, rfl⟩
  have LN := Lib.hid hN
  rw [hN] at h KH G c0 hp hq hz g1 hn hi ⊢
  have HS := Lib.hid h
  have HG := Lib.hid G
  have ZH := Lib.hid hz
  have C0 := Lib.hid c0
  have HP := Lib.hid hp
  have HQ := Lib.hid hq
  obtain ⟨j, hj⟩ : ∃ j, j = i + 1 := ⟨_, rfl⟩
  have HJ := Lib.hid hj
  have k1 : (i : Int) < n := by omega
  have k2 : (n : Int) ≤ cap := by omega
  have k3 : (cap : Int) ≤ 9223372036854775807 := by omega
  have k4 : (j : Int) ≤ n := by omega
  have k5 : (i : Int) ≤ cap := by omega
  have kw : IntKind.i64.wrap (((i : Nat) : Int) + 1) = ((j : Nat) : Int) := by rw [IntWalk.i64_in _ (by omega)]; omega
  obtain ⟨lb, lo, rfl, hc⟩ := pkts_at HS.out (by omega)
  obtain ⟨da, dn, dc, hW⟩ := hc i hi
  have HW := Lib.hid hW
  clear hv h hN G hz hx c0 hp hq hc hW hj
  go_enter Try.func12, Try.ntmps12
  go_upto_region 1 with fail
  generalize (((w.alloc (.cells #[.slice (some ⟨lb, lo, none⟩) n cap] 24)).alloc (.cells #[.int .i64 0, .int .i64 0, .slice none 0 0] 27)).alloc (.cells #[.slice none 0 0] 24)) = w1 at *
  have c0 := C0.out
  go_wp2_with fail
  refine KH.out.mono ?_
  rintro e w2 ⟨rfl, hb2⟩
  clear c0
  have G2 := Lib.hid (HG.out.trans (hb2.mono HG.out.size))
  have E0 := Lib.hid ((hb2.cell (p := ⟨w.heap.size, 0, none⟩) (show w.heap.size < _ by rw [ZH.out]; omega)).trans C0.out)
  have P2 := Lib.hid ((hb2.block (w.heap.size + 1) (by rw [ZH.out]; omega)).trans HP.out)
  have Q2 := Lib.hid ((hb2.block (w.heap.size + 2) (by rw [ZH.out]; omega)).trans HQ.out)
  have Z2 : Hid (w.heap.size + 3 ≤ w2.heap.size) := Lib.hid (by have := hb2.size; rw [ZH.out] at this; exact this)
  obtain ⟨⟨x0, x1, x2⟩, -, SB, -⟩ := HW.out w2 G2.out
  have c0 := E0.out
  have hb3 := (Below.refl w2.heap.size w2).alloc (Nat.le_refl _) (.cells #[.int .i64 (pk xs i).frm, .int .i64 (pk xs i).to, .slice da dn dc] 27)
  have B3 := Lib.hid hb3
  have S3 := Lib.hid (SB.below hb3)
  have YB := Lib.hid (heap_alloc_new w2 (.cells #[.int .i64 (pk xs i).frm, .int .i64 (pk xs i).to, .slice da dn dc] 27))
  have Z3 : Hid ((w2.alloc (.cells #[.int .i64 (pk xs i).frm, .int .i64 (pk xs i).to, .slice da dn dc] 27)).heap.size = w2.heap.size + 1) := Lib.hid (by simp)
  clear hb2 hb3 SB C0 HP HQ KH
  generalize pk xs i = x at *
  go_upto_region 4 with fail
  clear c0 x0 x1 x2
  generalize (w2.alloc (.cells #[.int .i64 x.frm, .int .i64 x.to, .slice da dn dc] 27)) = w3 at *
  have KC := Lib.hid (byclone_any (by_of S3.out) HB.out)
  obtain ⟨y2, -⟩ := box_bare YB.out 2
  simp only [List.getElem?_toArray, List.getElem?_cons_zero, List.getElem?_cons_succ] at y2
  go_upto_region 5 with (go_at_call 19; refine KC.out.mono ?_; rintro e w4 ⟨v4, rfl, ho4, hb4⟩; have O4 := Lib.hid ((ownB_of ho4).new flat_byte); obtain ⟨a4, c4, rfl, -, -, -, -⟩ := (ownB_of ho4).parts; have B4 := Lib.hid hb4; have YB4 := Lib.hid ((hb4.block w2.heap.size (by rw [Z3.out]; omega)).trans YB.out); obtain ⟨y2', y2f⟩ := box_bare YB4.out 2; simp only [List.getElem?_toArray, List.getElem?_cons_zero, List.getElem?_cons_succ] at y2'; clear y2 ho4 hb4)
  clear y2' y2f KC YB S3
  have YB5 := Lib.hid (heap_setCell_same w4 w2.heap.size 2 _ _ (.slice a4 x.bytes.length c4) YB4.out)
  have B45 : Hid (Below w2.heap.size w4 (w4.setCell ⟨w2.heap.size, 2, none⟩ (.slice a4 x.bytes.length c4))) := Lib.hid ((Below.refl w2.heap.size w4).setCell (p := ⟨w2.heap.size, 2, none⟩) (Nat.le_refl _) _)
  have B25 : Hid (Below w2.heap.size w2 (w4.setCell ⟨w2.heap.size, 2, none⟩ (.slice a4 x.bytes.length c4))) := Lib.hid ((B3.out.trans (B4.out.mono B3.out.size)).trans (B45.out))
  have Z45 : Hid ((w4.setCell ⟨w2.heap.size, 2, none⟩ (.slice a4 x.bytes.length c4)).heap.size = w4.heap.size) := Lib.hid (by simp [World.setCell])
  have O5 : Hid (Sq LByte (fun b => w2.heap.size + 1 ≤ b ∧ b < (w4.setCell ⟨w2.heap.size, 2, none⟩ (.slice a4 x.bytes.length c4)).heap.size) (w4.setCell ⟨w2.heap.size, 2, none⟩ (.slice a4 x.bytes.length c4)) (.slice a4 x.bytes.length c4) x.bytes) := Lib.hid ((O4.out.mono fun b hb => ⟨by rw [← Z3.out]; exact hb.1, by rw [Z45.out]; exact hb.2⟩).agree fun b hb => Below.heap_setCell _ _ _ _ (by show b ≠ w2.heap.size; omega))
  clear O4
  generalize (w4.setCell ⟨w2.heap.size, 2, none⟩ (.slice a4 x.bytes.length c4)) = w5 at *
  generalize hdn : x.bytes.length = d4 at *
  clear hdn
  have E5 := Lib.hid ((B25.out.cell (p := ⟨w.heap.size, 0, none⟩) (show w.heap.size < _ by have := Z2.out; omega)).trans E0.out)
  have P5 := Lib.hid ((B25.out.block (w.heap.size + 1) (by have := Z2.out; omega)).trans P2.out)
  have Q5 := Lib.hid ((B25.out.block (w.heap.size + 2) (by have := Z2.out; omega)).trans Q2.out)
  have G5 := Lib.hid (G2.out.trans (B25.out.mono G2.out.size))
  have Z5 : Hid (w2.heap.size + 1 ≤ w5.heap.size) := Lib.hid (by have := B4.out.size; rw [Z3.out] at this; rw [Z45.out]; exact this)
  clear B3 B4 B45 B25 E0 P2 Q2 YB4 Z3 Z45 G2
  clear w4 w3
  generalize w2.heap.size = pb at *
  clear w2
  have KF : Hid (∀ u, Below (w.heap.size + 1) w5 u → u.heap[pb]? = w5.heap[pb]? → Below (w.heap.size + 1) w5 u ∧ (u.cell? ⟨pb, 0, none⟩ = some (.int .i64 x.frm) ∧ u.cell? ⟨pb, 1, none⟩ = some (.int .i64 x.to) ∧ u.cell? ⟨pb, 2, none⟩ = some (.slice a4 d4 c4)) ∧ u.cell? ⟨w.heap.size, 0, none⟩ = some (.slice (some ⟨lb, lo, none⟩) n cap)) := Lib.hid (fun u hb hp => by
    have hy : u.heap[pb]? = some (.cells #[.int .i64 x.frm, .int .i64 x.to, .slice a4 d4 c4] 27 (0, 0)) := hp.trans YB5.out
    exact ⟨hb, ⟨(box_bare hy 0).1, (box_bare hy 1).1, (box_bare hy 2).1⟩, (hb.cell (p := ⟨w.heap.size, 0, none⟩) (show w.heap.size < _ by omega)).trans E5.out⟩)
  have KE : Hid (∀ u, Below w5.heap.size w5 u → Below (w.heap.size + 1) w5 u ∧ (u.cell? ⟨pb, 0, none⟩ = some (.int .i64 x.frm) ∧ u.cell? ⟨pb, 1, none⟩ = some (.int .i64 x.to) ∧ u.cell? ⟨pb, 2, none⟩ = some (.slice a4 d4 c4)) ∧ u.cell? ⟨w.heap.size, 0, none⟩ = some (.slice (some ⟨lb, lo, none⟩) n cap)) := Lib.hid (fun u hb => KF.out u (hb.mono (by have := Z2.out; have := Z5.out; omega)) (hb.block pb (by have := Z5.out; omega)))
  have T1 : Hid (SeqE LPkt w5 (.slice (some ⟨lb, lo, none⟩) i cap) (xs.take i)) := Lib.hid ((HS.out.below G5.out).first i (by omega))
  have HXT : Hid (∀ x ∈ xs.take i, x.bytes.length ≤ 1000000) := Lib.hid (fun x h => HX.out x (List.mem_of_mem_take h))
  have HXD : Hid (∀ x ∈ xs.drop (i + 1), x.bytes.length ≤ 1000000) := Lib.hid (fun x h => HX.out x (List.mem_of_mem_drop h))
  have HLL : Hid ((xs.take i).length + (xs.drop (i + 1)).length ≤ 1000000) := Lib.hid (by rw [List.length_take, List.length_drop, LN.out]; omega)
  by_cases hck : cap = j
  · have hck2 := hck.symm
    subst hck2
    obtain rfl : n = j := by omega
    have T2 : Hid (SeqE LPkt w5 (.slice (some ⟨lb, lo, none⟩) 0 0) (xs.drop (i + 1))) := Lib.hid (by rw [List.drop_eq_nil_of_le (by rw [LN.out, HJ.out]; exact Nat.le_refl _)]; exact SeqE.empty _ _ _ (by unfold maxLen; omega))
    have A2 : Hid (Below w5.heap.size w5 (w5.alloc (.cells #[.slice (some ⟨lb, lo, none⟩) i n, .slice (some ⟨lb, lo, none⟩) 0 0] 22)).drew) := Lib.hid ((Below.refl _ _).drew.alloc (Nat.le_refl _) _)
    have A3 : Hid ((w5.alloc (.cells #[.slice (some ⟨lb, lo, none⟩) i n, .slice (some ⟨lb, lo, none⟩) 0 0] 22)).drew.heap.size = w5.heap.size + 1) := Lib.hid (by simp)
    have KA : Hid (Calls Try.prog 17 #[.slice (some ⟨w5.heap.size, 0, none⟩) 2 2] (w5.alloc (.cells #[.slice (some ⟨lb, lo, none⟩) i n, .slice (some ⟨lb, lo, none⟩) 0 0] 22)).drew (MadeN (fun w b => w.heap.size ≤ b) (w5.alloc (.cells #[.slice (some ⟨lb, lo, none⟩) i n, .slice (some ⟨lb, lo, none⟩) 0 0] 22)).drew (xs.eraseIdx i))) := Lib.hid (by rw [XE.out]; exact ntapart_two _ 2 _ (World.cell?_alloc_new w5.drew #[.slice (some ⟨lb, lo, none⟩) i n, .slice (some ⟨lb, lo, none⟩) 0 0] 22 0) (World.cell?_alloc_new w5.drew #[.slice (some ⟨lb, lo, none⟩) i n, .slice (some ⟨lb, lo, none⟩) 0 0] 22 1) (T1.out.below A2.out) (T2.out.below A2.out) HLL.out HXT.out HXD.out)
    clear T1 T2 HLL HXT HXD XE HS
    go_upto_region 5 with fail
    refine wp_region_held_drew (S := fun u' => Below (w.heap.size + 1) w5 u' ∧ (u'.cell? ⟨pb, 0, none⟩ = some (.int .i64 x.frm) ∧ u'.cell? ⟨pb, 1, none⟩ = some (.int .i64 x.to) ∧ u'.cell? ⟨pb, 2, none⟩ = some (.slice a4 d4 c4)) ∧ u'.cell? ⟨w.heap.size, 0, none⟩ = some (.slice (some ⟨lb, lo, none⟩) n n)) (by kernel_rfl) ?_ (fun hHeld => ?_)
    · (exact KE.out _ (Below.refl _ _).drew)
    simp only [List.size_toArray, List.length_cons, List.length_nil, Nat.zero_add, Nat.reduceAdd]
    refine wpAnyH_take (i := 0) (v := ?_) rfl (by kernel_rfl) (by kernel_rfl) (by kernel_rfl) (fun _ _ _ h => h) (Or.inl ⟨by rfl, ?_⟩) hHeld ?_
    rotate_left
    · (intro w' hSw; (try dsimp only at hSw); go_simp; try with_reducible rfl)
    simp only [List.getElem_toArray, List.getElem_cons_zero, Act.put, List.setIfInBounds_toArray, List.set_cons_zero, List.set_cons_succ]
    refine wpAnyH_take (i := 1) (v := ?_) rfl (by kernel_rfl) (by kernel_rfl) (by kernel_rfl) (fun _ _ _ h => h) (Or.inl ⟨by rfl, ?_⟩) hHeld ?_
    rotate_left
    · (intro w' hSw; (try dsimp only at hSw); go_simp; try with_reducible rfl)
    simp only [List.getElem_toArray, List.getElem_cons_zero, List.getElem_cons_succ, Act.put, List.setIfInBounds_toArray, List.set_cons_zero, List.set_cons_succ]
    refine wpAnyH_take (i := 2) (v := ?_) rfl (by kernel_rfl) (by kernel_rfl) (by kernel_rfl) (fun _ _ _ h => h) (Or.inl ⟨by rfl, ?_⟩) hHeld ?_
    rotate_left
    · (intro w' hSw; (try dsimp only at hSw); go_simp; try with_reducible rfl)
    simp only [List.getElem_toArray, List.getElem_cons_zero, List.getElem_cons_succ, Act.put, List.setIfInBounds_toArray, List.set_cons_zero, List.set_cons_succ]
    refine wpAnyH_take (i := 3) (v := ?_) rfl (by kernel_rfl) (by kernel_rfl) (by kernel_rfl) (fun _ _ _ h => h) (Or.inl ⟨by rfl, ?_⟩) hHeld ?_
    rotate_left
    · (intro w' hSw; (try dsimp only at hSw); go_simp; try with_reducible rfl)
    simp only [List.getElem_toArray, List.getElem_cons_zero, List.getElem_cons_succ, Act.put, List.setIfInBounds_toArray, List.set_cons_zero, List.set_cons_succ]
    refine wpAnyH_take (i := 4) (v := ?_) rfl (by kernel_rfl) (by kernel_rfl) (by kernel_rfl) (fun _ _ _ h => h) (Or.inl ⟨by rfl, ?_⟩) hHeld ?_
    rotate_left
    · (intro w' hSw; (try dsimp only at hSw); go_simp; try with_reducible rfl)
    simp only [List.getElem_toArray, List.getElem_cons_zero, List.getElem_cons_succ, Act.put, List.setIfInBounds_toArray, List.set_cons_zero, List.set_cons_succ]
    refine wpAnyH_take (i := 5) (v := ?_) rfl (by kernel_rfl) (by kernel_rfl) (by kernel_rfl) (fun _ _ _ h => h) (Or.inl ⟨by rfl, ?_⟩) hHeld ?_
    rotate_left
    · (intro w' hSw; (try dsimp only at hSw); go_simp; try with_reducible rfl)
    simp only [List.getElem_toArray, List.getElem_cons_zero, List.getElem_cons_succ, Act.put, List.setIfInBounds_toArray, List.set_cons_zero, List.set_cons_succ]
    refine wpAnyH_take (i := 6) (v := ?_) rfl (by kernel_rfl) (by kernel_rfl) (by kernel_rfl) (fun _ _ _ h => h) (Or.inl ⟨by rfl, ?_⟩) hHeld ?_
    rotate_left
    · (intro w' hSw; (try dsimp only at hSw); go_simp; try with_reducible rfl)
    simp only [List.getElem_toArray, List.getElem_cons_zero, List.getElem_cons_succ, Act.put, List.setIfInBounds_toArray, List.set_cons_zero, List.set_cons_succ]
    refine wpAnyH_take (i := 7) (v := ?_) rfl (by kernel_rfl) (by kernel_rfl) (by kernel_rfl) (fun _ _ _ h => h) (Or.inl ⟨by rfl, ?_⟩) hHeld ?_
    rotate_left
    · (intro w' hSw; (try dsimp only at hSw); go_simp; try with_reducible rfl)
    simp only [List.getElem_toArray, List.getElem_cons_zero, List.getElem_cons_succ, Act.put, List.setIfInBounds_toArray, List.set_cons_zero, List.set_cons_succ]
    refine wpAnyH_take (i := 8) (v := ?_) rfl (by kernel_rfl) (by kernel_rfl) (by kernel_rfl) (fun _ _ _ h => h) (Or.inl ⟨by rfl, ?_⟩) hHeld ?_
    rotate_left
    · (intro w' hSw; (try dsimp only at hSw); go_simp; try with_reducible rfl)
    simp only [List.getElem_toArray, List.getElem_cons_zero, List.getElem_cons_succ, Act.put, List.setIfInBounds_toArray, List.set_cons_zero, List.set_cons_succ]
    refine wpAnyH_take (i := 9) (v := ?_) rfl (by kernel_rfl) (by kernel_rfl) (by kernel_rfl) (fun _ _ _ h => h) (Or.inl ⟨by rfl, ?_⟩) hHeld ?_
    rotate_left
    · (intro w' hSw; (try dsimp only at hSw); go_simp; try with_reducible rfl)
    simp only [List.getElem_toArray, List.getElem_cons_zero, List.getElem_cons_succ, Act.put, List.setIfInBounds_toArray, List.set_cons_zero, List.set_cons_succ]
    refine wpAnyH_ready (rs := [10]) (by kernel_rfl) (by simp) ?_
    refine AllReadyH.cons rfl (fun K hK => ?_) AllReadyH.nil
    go_simp
    refine hK.out _ _ (KE.out _ A2.out) (fun hHeld => ?_)
    clear hK K
    generalize (w5.alloc (.cells #[.slice (some ⟨lb, lo, none⟩) i n, .slice (some ⟨lb, lo, none⟩) 0 0] 22)).drew = ua at *
    refine wpAnyH_ready (rs := [11]) (by kernel_rfl) (by simp) ?_
    refine AllReadyH.cons rfl (fun K hK => ?_) AllReadyH.nil
    go_simp
    refine (KA.out).mono ?_
    rintro e s1 ⟨v7, rfl, ho7, hb⟩
    obtain ⟨a7, c7, rfl, -, -, -, -⟩ := ho7.own.parts
    have O7 := Lib.hid ho7
    have BA := Lib.hid (A2.out.trans (hb.mono A2.out.size))
    have UZ : Hid (w5.heap.size + 1 ≤ ua.heap.size ∧ ua.heap.size ≤ s1.heap.size) := Lib.hid ⟨by rw [A3.out]; omega, hb.size⟩
    refine hK.out _ _ (KE.out _ BA.out) (fun hHeld => ?_)
    clear hK K hb ho7 KA
    generalize hm7 : (xs.eraseIdx i).length = m7 at *
    clear hm7
    have hz2 := Z2.out
    have hz5 := Z5.out
    have P7 := (BA.out.block (w.heap.size + 1) (by omega)).trans P5.out
    have Q7 := (BA.out.block (w.heap.size + 2) (by omega)).trans Q5.out
    have PO := Lib.hid (put3_out (show w.heap.size + 1 ≠ w.heap.size + 2 by omega) P7 Q7 (.int .i64 x.frm) (.int .i64 x.to) (.slice a4 d4 c4))
    obtain ⟨p0, f0⟩ := box_bare P7 0
    obtain ⟨p1, f1⟩ := box_bare P7 1
    obtain ⟨p2, f2⟩ := box_bare P7 2
    simp only [List.getElem?_toArray, List.getElem?_cons_zero, List.getElem?_cons_succ] at p0 p1 p2
    clear P7 Q7 hz2 hz5
    refine wpAnyH_ready (rs := [12]) (by kernel_rfl) (by simp) ?_
    refine AllReadyH.cons rfl (fun K hK => ?_) AllReadyH.nil
    go_simp
    have B8 : Below (w.heap.size + 1) w5 (put3 s1 (w.heap.size + 1) (.int .i64 x.frm) (.int .i64 x.to) (.slice a4 d4 c4)) := (BA.out.mono (by have := Z2.out; have := Z5.out; omega)).trans (PO.out.2.2.2.2 _ (Nat.le_refl _))
    have Y8 : (put3 s1 (w.heap.size + 1) (.int .i64 x.frm) (.int .i64 x.to) (.slice a4 d4 c4)).heap[pb]? = w5.heap[pb]? := (PO.out.2.2.2.1 pb (by have := Z2.out; omega)).trans (BA.out.block pb (by have := Z5.out; omega))
    refine hK.out _ _ (KF.out _ B8 Y8) (fun hHeld => ?_)
    clear hK K p0 p1 p2 f0 f1 f2
    have HB8 := Lib.hid B8
    have HY8 := Lib.hid Y8
    clear B8 Y8
    unfold put3 at PO HB8 HY8
    generalize ((s1.setCell ⟨w.heap.size + 1, 0, none⟩ (.int .i64 x.frm)).setCell ⟨w.heap.size + 1, 1, none⟩ (.int .i64 x.to)).setCell ⟨w.heap.size + 1, 2, none⟩ (.slice a4 d4 c4) = s2 at *
    obtain ⟨q0, r0⟩ := box_bare PO.out.2.1 0
    simp only [List.getElem?_toArray, List.getElem?_cons_zero] at q0
    refine wpAnyH_ready (rs := [13]) (by kernel_rfl) (by simp) ?_
    refine AllReadyH.cons rfl (fun K hK => ?_) AllReadyH.nil
    go_simp
    refine hK.out _ _ (KF.out _ (HB8.out.setCell (by show w.heap.size + 1 ≤ w.heap.size + 2; omega) _) ((Below.heap_setCell _ _ _ _ (by show pb ≠ w.heap.size + 2; have := Z2.out; omega)).trans HY8.out)) (fun hHeld => ?_)
    clear hK K q0 r0
    refine wpAnyH_take (i := 14) (v := ?_) rfl (by kernel_rfl) (by kernel_rfl) (by kernel_rfl) (fun _ _ _ h => h) (Or.inl ⟨by rfl, ?_⟩) hHeld ?_
    rotate_left
    · (intro w' hSw; (try dsimp only at hSw); go_simp; try with_reducible rfl)
    simp only [List.getElem_toArray, List.getElem_cons_zero, List.getElem_cons_succ, Act.put, List.setIfInBounds_toArray, List.set_cons_zero, List.set_cons_succ]
    refine wpAnyH_done (by kernel_rfl) ?_ _
    clear hHeld
    go_wp2_with fail
    have E3 := fun z => heap_setCell_same s2 (w.heap.size + 2) 0 _ _ z PO.out.2.1
    have E4 := fun z => (Below.heap_setCell s2 ⟨w.heap.size + 2, 0, none⟩ z (w.heap.size + 1) (by show w.heap.size + 1 ≠ w.heap.size + 2; omega)).trans PO.out.1
    have e0 := fun z => (box_bare (E4 z) 0).1
    have e1 := fun z => (box_bare (E4 z) 1).1
    have e2 := fun z => (box_bare (E4 z) 2).1
    have e3 := fun z => (box_bare (E3 z) 0).1
    simp at e0 e1 e2 e3
    have AG : ∀ z b, b ≠ w.heap.size + 1 → b ≠ w.heap.size + 2 → (s2.setCell ⟨w.heap.size + 2, 0, none⟩ z).heap[b]? = s1.heap[b]? := fun z b h1 h2 => (Below.heap_setCell _ _ _ _ h2).trans (PO.out.2.2.2.1 b h1)
    have SZ : ∀ z, (s2.setCell ⟨w.heap.size + 2, 0, none⟩ z).heap.size = s1.heap.size := fun z => by rw [show (s2.setCell ⟨w.heap.size + 2, 0, none⟩ z).heap.size = s2.heap.size by simp [World.setCell]]; exact PO.out.2.2.1
    have z2 := Z2.out
    have z5 := Z5.out
    have zu := UZ.out
    have zba := BA.out.size
    refine bodyPost_ret (v := .tuple #[.agg #[.int .i64 x.frm, .int .i64 x.to, .slice a4 d4 c4], .agg #[.slice a7 m7 c7], .int .i64 0]) (by simp [results, Try.results12, go_sem, e0, e1, e2, e3]) rfl ⟨_, _, rfl, ?_, ?_, ?_⟩
    · exact ((O5.out.agree fun b hb => (AG _ b (by omega) (by omega)).trans (BA.out.block b (by omega))).mono fun b hb => ⟨by omega, by rw [SZ]; omega⟩)
    · exact ((O7.out.kept (Nat.le_of_eq (SZ _).symm) fun b hb h => AG _ b (by have h2 : ua.heap.size ≤ b ∨ ua.heap.size ≤ b := h; omega) (by have h2 : ua.heap.size ≤ b ∨ ua.heap.size ≤ b := h; omega)).mono (by omega)).imp fun b hb => by have h2 : ua.heap.size ≤ b := hb; omega
    · exact G5.out.trans ((HB8.out.mono (by omega)).setCell (by show _ ≤ w.heap.size + 2; have := G5.out.size; omega) _)
  · have T2 : Hid (SeqE LPkt w5 (.slice (some ⟨lb, lo + j * 3, none⟩) (n - j) (cap - j)) (xs.drop (i + 1))) := Lib.hid (by
      have h := (HS.out.below G5.out).behind j (by omega)
      rw [← HJ.out]
      exact h)
    have A2 : Hid (Below w5.heap.size w5 (w5.alloc (.cells #[.slice (some ⟨lb, lo, none⟩) i cap, .slice (some ⟨lb, lo + j * 3, none⟩) (n - j) (cap - j)] 22)).drew) := Lib.hid ((Below.refl _ _).drew.alloc (Nat.le_refl _) _)
    have A3 : Hid ((w5.alloc (.cells #[.slice (some ⟨lb, lo, none⟩) i cap, .slice (some ⟨lb, lo + j * 3, none⟩) (n - j) (cap - j)] 22)).drew.heap.size = w5.heap.size + 1) := Lib.hid (by simp)
    have KA : Hid (Calls Try.prog 17 #[.slice (some ⟨w5.heap.size, 0, none⟩) 2 2] (w5.alloc (.cells #[.slice (some ⟨lb, lo, none⟩) i cap, .slice (some ⟨lb, lo + j * 3, none⟩) (n - j) (cap - j)] 22)).drew (MadeN (fun w b => w.heap.size ≤ b) (w5.alloc (.cells #[.slice (some ⟨lb, lo, none⟩) i cap, .slice (some ⟨lb, lo + j * 3, none⟩) (n - j) (cap - j)] 22)).drew (xs.eraseIdx i))) := Lib.hid (by rw [XE.out]; exact ntapart_two _ 2 _ (World.cell?_alloc_new w5.drew #[.slice (some ⟨lb, lo, none⟩) i cap, .slice (some ⟨lb, lo + j * 3, none⟩) (n - j) (cap - j)] 22 0) (World.cell?_alloc_new w5.drew #[.slice (some ⟨lb, lo, none⟩) i cap, .slice (some ⟨lb, lo + j * 3, none⟩) (n - j) (cap - j)] 22 1) (T1.out.below A2.out) (T2.out.below A2.out) HLL.out HXT.out HXD.out)
    clear T1 T2 HLL HXT HXD XE HS
    go_upto_region 5 with fail
    refine wp_region_held_drew (S := fun u' => Below (w.heap.size + 1) w5 u' ∧ (u'.cell? ⟨pb, 0, none⟩ = some (.int .i64 x.frm) ∧ u'.cell? ⟨pb, 1, none⟩ = some (.int .i64 x.to) ∧ u'.cell? ⟨pb, 2, none⟩ = some (.slice a4 d4 c4)) ∧ u'.cell? ⟨w.heap.size, 0, none⟩ = some (.slice (some ⟨lb, lo, none⟩) n cap)) (by kernel_rfl) ?_ (fun hHeld => ?_)
    · (exact KE.out _ (Below.refl _ _).drew)
    simp only [List.size_toArray, List.length_cons, List.length_nil, Nat.zero_add, Nat.reduceAdd]
    refine wpAnyH_take (i := 0) (v := ?_) rfl (by kernel_rfl) (by kernel_rfl) (by kernel_rfl) (fun _ _ _ h => h) (Or.inl ⟨by rfl, ?_⟩) hHeld ?_
    rotate_left
    · (intro w' hSw; (try dsimp only at hSw); go_simp; try with_reducible rfl)
    simp only [List.getElem_toArray, List.getElem_cons_zero, Act.put, List.setIfInBounds_toArray, List.set_cons_zero, List.set_cons_succ]
    refine wpAnyH_take (i := 1) (v := ?_) rfl (by kernel_rfl) (by kernel_rfl) (by kernel_rfl) (fun _ _ _ h => h) (Or.inl ⟨by rfl, ?_⟩) hHeld ?_
    rotate_left
    · (intro w' hSw; (try dsimp only at hSw); go_simp; try with_reducible rfl)
    simp only [List.getElem_toArray, List.getElem_cons_zero, List.getElem_cons_succ, Act.put, List.setIfInBounds_toArray, List.set_cons_zero, List.set_cons_succ]
    refine wpAnyH_take (i := 2) (v := ?_) rfl (by kernel_rfl) (by kernel_rfl) (by kernel_rfl) (fun _ _ _ h => h) (Or.inl ⟨by rfl, ?_⟩) hHeld ?_
    rotate_left
    · (intro w' hSw; (try dsimp only at hSw); go_simp; try with_reducible rfl)
    simp only [List.getElem_toArray, List.getElem_cons_zero, List.getElem_cons_succ, Act.put, List.setIfInBounds_toArray, List.set_cons_zero, List.set_cons_succ]
    refine wpAnyH_take (i := 3) (v := ?_) rfl (by kernel_rfl) (by kernel_rfl) (by kernel_rfl) (fun _ _ _ h => h) (Or.inl ⟨by rfl, ?_⟩) hHeld ?_
    rotate_left
    · (intro w' hSw; (try dsimp only at hSw); go_simp; try with_reducible rfl)
    simp only [List.getElem_toArray, List.getElem_cons_zero, List.getElem_cons_succ, Act.put, List.setIfInBounds_toArray, List.set_cons_zero, List.set_cons_succ]
    refine wpAnyH_take (i := 4) (v := ?_) rfl (by kernel_rfl) (by kernel_rfl) (by kernel_rfl) (fun _ _ _ h => h) (Or.inl ⟨by rfl, ?_⟩) hHeld ?_
    rotate_left
    · (intro w' hSw; (try dsimp only at hSw); go_simp; try with_reducible rfl)
    simp only [List.getElem_toArray, List.getElem_cons_zero, List.getElem_cons_succ, Act.put, List.setIfInBounds_toArray, List.set_cons_zero, List.set_cons_succ]
    refine wpAnyH_take (i := 5) (v := ?_) rfl (by kernel_rfl) (by kernel_rfl) (by kernel_rfl) (fun _ _ _ h => h) (Or.inl ⟨by rfl, ?_⟩) hHeld ?_
    rotate_left
    · (intro w' hSw; (try dsimp only at hSw); go_simp; try with_reducible rfl)
    simp only [List.getElem_toArray, List.getElem_cons_zero, List.getElem_cons_succ, Act.put, List.setIfInBounds_toArray, List.set_cons_zero, List.set_cons_succ]
    refine wpAnyH_take (i := 6) (v := ?_) rfl (by kernel_rfl) (by kernel_rfl) (by kernel_rfl) (fun _ _ _ h => h) (Or.inl ⟨by rfl, ?_⟩) hHeld ?_
    rotate_left
    · (intro w' hSw; (try dsimp only at hSw); go_simp; try with_reducible rfl)
    simp only [List.getElem_toArray, List.getElem_cons_zero, List.getElem_cons_succ, Act.put, List.setIfInBounds_toArray, List.set_cons_zero, List.set_cons_succ]
    refine wpAnyH_take (i := 7) (v := ?_) rfl (by kernel_rfl) (by kernel_rfl) (by kernel_rfl) (fun _ _ _ h => h) (Or.inl ⟨by rfl, ?_⟩) hHeld ?_
    rotate_left
    · (intro w' hSw; (try dsimp only at hSw); go_simp; try with_reducible rfl)
    simp only [List.getElem_toArray, List.getElem_cons_zero, List.getElem_cons_succ, Act.put, List.setIfInBounds_toArray, List.set_cons_zero, List.set_cons_succ]
    refine wpAnyH_take (i := 8) (v := ?_) rfl (by kernel_rfl) (by kernel_rfl) (by kernel_rfl) (fun _ _ _ h => h) (Or.inl ⟨by rfl, ?_⟩) hHeld ?_
    rotate_left
    · (intro w' hSw; (try dsimp only at hSw); go_simp; try with_reducible rfl)
    simp only [List.getElem_toArray, List.getElem_cons_zero, List.getElem_cons_succ, Act.put, List.setIfInBounds_toArray, List.set_cons_zero, List.set_cons_succ]
    refine wpAnyH_take (i := 9) (v := ?_) rfl (by kernel_rfl) (by kernel_rfl) (by kernel_rfl) (fun _ _ _ h => h) (Or.inl ⟨by rfl, ?_⟩) hHeld ?_
    rotate_left
    · (intro w' hSw; (try dsimp only at hSw); go_simp; try with_reducible rfl)
    simp only [List.getElem_toArray, List.getElem_cons_zero, List.getElem_cons_succ, Act.put, List.setIfInBounds_toArray, List.set_cons_zero, List.set_cons_succ]
    refine wpAnyH_ready (rs := [10]) (by kernel_rfl) (by simp) ?_
    refine AllReadyH.cons rfl (fun K hK => ?_) AllReadyH.nil
    go_simp
    refine hK.out _ _ (KE.out _ A2.out) (fun hHeld => ?_)
    clear hK K
    generalize (w5.alloc (.cells #[.slice (some ⟨lb, lo, none⟩) i cap, .slice (some ⟨lb, lo + j * 3, none⟩) (n - j) (cap - j)] 22)).drew = ua at *
    refine wpAnyH_ready (rs := [11]) (by kernel_rfl) (by simp) ?_
    refine AllReadyH.cons rfl (fun K hK => ?_) AllReadyH.nil
    go_simp
    refine (KA.out).mono ?_
    rintro e s1 ⟨v7, rfl, ho7, hb⟩
    obtain ⟨a7, c7, rfl, -, -, -, -⟩ := ho7.own.parts
    have O7 := Lib.hid ho7
    have BA := Lib.hid (A2.out.trans (hb.mono A2.out.size))
    have UZ : Hid (w5.heap.size + 1 ≤ ua.heap.size ∧ ua.heap.size ≤ s1.heap.size) := Lib.hid ⟨by rw [A3.out]; omega, hb.size⟩
    refine hK.out _ _ (KE.out _ BA.out) (fun hHeld => ?_)
    clear hK K hb ho7 KA
    generalize hm7 : (xs.eraseIdx i).length = m7 at *
    clear hm7
    have hz2 := Z2.out
    have hz5 := Z5.out
    have P7 := (BA.out.block (w.heap.size + 1) (by omega)).trans P5.out
    have Q7 := (BA.out.block (w.heap.size + 2) (by omega)).trans Q5.out
    have PO := Lib.hid (put3_out (show w.heap.size + 1 ≠ w.heap.size + 2 by omega) P7 Q7 (.int .i64 x.frm) (.int .i64 x.to) (.slice a4 d4 c4))
    obtain ⟨p0, f0⟩ := box_bare P7 0
    obtain ⟨p1, f1⟩ := box_bare P7 1
    obtain ⟨p2, f2⟩ := box_bare P7 2
    simp only [List.getElem?_toArray, List.getElem?_cons_zero, List.getElem?_cons_succ] at p0 p1 p2
    clear P7 Q7 hz2 hz5
    refine wpAnyH_ready (rs := [12]) (by kernel_rfl) (by simp) ?_
    refine AllReadyH.cons rfl (fun K hK => ?_) AllReadyH.nil
    go_simp
    have B8 : Below (w.heap.size + 1) w5 (put3 s1 (w.heap.size + 1) (.int .i64 x.frm) (.int .i64 x.to) (.slice a4 d4 c4)) := (BA.out.mono (by have := Z2.out; have := Z5.out; omega)).trans (PO.out.2.2.2.2 _ (Nat.le_refl _))
    have Y8 : (put3 s1 (w.heap.size + 1) (.int .i64 x.frm) (.int .i64 x.to) (.slice a4 d4 c4)).heap[pb]? = w5.heap[pb]? := (PO.out.2.2.2.1 pb (by have := Z2.out; omega)).trans (BA.out.block pb (by have := Z5.out; omega))
    refine hK.out _ _ (KF.out _ B8 Y8) (fun hHeld => ?_)
    clear hK K p0 p1 p2 f0 f1 f2
    have HB8 := Lib.hid B8
    have HY8 := Lib.hid Y8
    clear B8 Y8
    unfold put3 at PO HB8 HY8
    generalize ((s1.setCell ⟨w.heap.size + 1, 0, none⟩ (.int .i64 x.frm)).setCell ⟨w.heap.size + 1, 1, none⟩ (.int .i64 x.to)).setCell ⟨w.heap.size + 1, 2, none⟩ (.slice a4 d4 c4) = s2 at *
    obtain ⟨q0, r0⟩ := box_bare PO.out.2.1 0
    simp only [List.getElem?_toArray, List.getElem?_cons_zero] at q0
    refine wpAnyH_ready (rs := [13]) (by kernel_rfl) (by simp) ?_
    refine AllReadyH.cons rfl (fun K hK => ?_) AllReadyH.nil
    go_simp
    refine hK.out _ _ (KF.out _ (HB8.out.setCell (by show w.heap.size + 1 ≤ w.heap.size + 2; omega) _) ((Below.heap_setCell _ _ _ _ (by show pb ≠ w.heap.size + 2; have := Z2.out; omega)).trans HY8.out)) (fun hHeld => ?_)
    clear hK K q0 r0
    refine wpAnyH_take (i := 14) (v := ?_) rfl (by kernel_rfl) (by kernel_rfl) (by kernel_rfl) (fun _ _ _ h => h) (Or.inl ⟨by rfl, ?_⟩) hHeld ?_
    rotate_left
    · (intro w' hSw; (try dsimp only at hSw); go_simp; try with_reducible rfl)
    simp only [List.getElem_toArray, List.getElem_cons_zero, List.getElem_cons_succ, Act.put, List.setIfInBounds_toArray, List.set_cons_zero, List.set_cons_succ]
    refine wpAnyH_done (by kernel_rfl) ?_ _
    clear hHeld
    go_wp2_with fail
    have E3 := fun z => heap_setCell_same s2 (w.heap.size + 2) 0 _ _ z PO.out.2.1
    have E4 := fun z => (Below.heap_setCell s2 ⟨w.heap.size + 2, 0, none⟩ z (w.heap.size + 1) (by show w.heap.size + 1 ≠ w.heap.size + 2; omega)).trans PO.out.1
    have e0 := fun z => (box_bare (E4 z) 0).1
    have e1 := fun z => (box_bare (E4 z) 1).1
    have e2 := fun z => (box_bare (E4 z) 2).1
    have e3 := fun z => (box_bare (E3 z) 0).1
    simp at e0 e1 e2 e3
    have AG : ∀ z b, b ≠ w.heap.size + 1 → b ≠ w.heap.size + 2 → (s2.setCell ⟨w.heap.size + 2, 0, none⟩ z).heap[b]? = s1.heap[b]? := fun z b h1 h2 => (Below.heap_setCell _ _ _ _ h2).trans (PO.out.2.2.2.1 b h1)
    have SZ : ∀ z, (s2.setCell ⟨w.heap.size + 2, 0, none⟩ z).heap.size = s1.heap.size := fun z => by rw [show (s2.setCell ⟨w.heap.size + 2, 0, none⟩ z).heap.size = s2.heap.size by simp [World.setCell]]; exact PO.out.2.2.1
    have z2 := Z2.out
    have z5 := Z5.out
    have zu := UZ.out
    have zba := BA.out.size
    refine bodyPost_ret (v := .tuple #[.agg #[.int .i64 x.frm, .int .i64 x.to, .slice a4 d4 c4], .agg #[.slice a7 m7 c7], .int .i64 0]) (by simp [results, Try.results12, go_sem, e0, e1, e2, e3]) rfl ⟨_, _, rfl, ?_, ?_, ?_⟩
    · exact ((O5.out.agree fun b hb => (AG _ b (by omega) (by omega)).trans (BA.out.block b (by omega))).mono fun b hb => ⟨by omega, by rw [SZ]; omega⟩)
    · exact ((O7.out.kept (Nat.le_of_eq (SZ _).symm) fun b hb h => AG _ b (by have h2 : ua.heap.size ≤ b ∨ ua.heap.size ≤ b := h; omega) (by have h2 : ua.heap.size ≤ b ∨ ua.heap.size ≤ b := h; omega)).mono (by omega)).imp fun b hb => by have h2 : ua.heap.size ≤ b := hb; omega
    · exact G5.out.trans ((HB8.out.mono (by omega)).setCell (by show _ ≤ w.heap.size + 2; have := G5.out.size; omega) _)
end Go.Proofs.Ytgllaoanpemjlaa
