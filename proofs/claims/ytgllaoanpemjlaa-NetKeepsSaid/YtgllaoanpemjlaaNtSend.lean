/- The document's own Send of networks. (Written by gen-ntsend.py.) -/
import Derived.Test.YtgllaoanpemjlaaNtWith
namespace Go.Proofs.Ytgllaoanpemjlaa
open Go.RowKit Plain
set_option linter.unusedVariables false

/-- a network that is made, and a number beside it -/
def MadeNE (J : World → Nat → Prop) (w : World) (xs : List PPkt) (n : Int) (e : Ending) (w' : World) : Prop := ∃ v, e = .returned (.tuple #[.agg #[v], .int .i64 n]) ∧ OwnJ (J w) LPkt w.heap.size w' v xs ∧ Below w.heap.size w w'
theorem send_boxes (w : World) (a : Option Addr) (n cap : Nat) (p : PPkt) (pa : Option Addr) (pn pc : Nat) : Below w.heap.size w (((w.alloc (.cells #[.slice a n cap] 24)).alloc (.cells #[.int .i64 p.frm, .int .i64 p.to, .slice pa pn pc] 27)).alloc (.cells #[.slice none 0 0] 24)) ∧ (((w.alloc (.cells #[.slice a n cap] 24)).alloc (.cells #[.int .i64 p.frm, .int .i64 p.to, .slice pa pn pc] 27)).alloc (.cells #[.slice none 0 0] 24)).cell? ⟨w.heap.size, 0, none⟩ = some (.slice a n cap) ∧
    ((((w.alloc (.cells #[.slice a n cap] 24)).alloc (.cells #[.int .i64 p.frm, .int .i64 p.to, .slice pa pn pc] 27)).alloc (.cells #[.slice none 0 0] 24)).cell? ⟨w.heap.size + 1, 0, none⟩ = some (.int .i64 p.frm) ∧ (((w.alloc (.cells #[.slice a n cap] 24)).alloc (.cells #[.int .i64 p.frm, .int .i64 p.to, .slice pa pn pc] 27)).alloc (.cells #[.slice none 0 0] 24)).cell? ⟨w.heap.size + 1, 1, none⟩ = some (.int .i64 p.to) ∧ (((w.alloc (.cells #[.slice a n cap] 24)).alloc (.cells #[.int .i64 p.frm, .int .i64 p.to, .slice pa pn pc] 27)).alloc (.cells #[.slice none 0 0] 24)).cell? ⟨w.heap.size + 1, 2, none⟩ = some (.slice pa pn pc)) ∧
    ((((w.alloc (.cells #[.slice a n cap] 24)).alloc (.cells #[.int .i64 p.frm, .int .i64 p.to, .slice pa pn pc] 27)).alloc (.cells #[.slice none 0 0] 24)).cell? ⟨w.heap.size + 1 + 1, 0, none⟩ = some (.slice none 0 0) ∧ (((w.alloc (.cells #[.slice a n cap] 24)).alloc (.cells #[.int .i64 p.frm, .int .i64 p.to, .slice pa pn pc] 27)).alloc (.cells #[.slice none 0 0] 24)).frozen? ⟨w.heap.size + 1 + 1, 0, none⟩ = false) ∧ (((w.alloc (.cells #[.slice a n cap] 24)).alloc (.cells #[.int .i64 p.frm, .int .i64 p.to, .slice pa pn pc] 27)).alloc (.cells #[.slice none 0 0] 24)).heap.size = w.heap.size + 3 := by
  have B1 : Below w.heap.size w (w.alloc (.cells #[.slice a n cap] 24)) := (Below.refl _ _).alloc (Nat.le_refl _) _
  have s1 : (w.alloc (.cells #[.slice a n cap] 24)).heap.size = w.heap.size + 1 := by simp
  have s2 : ((w.alloc (.cells #[.slice a n cap] 24)).alloc (.cells #[.int .i64 p.frm, .int .i64 p.to, .slice pa pn pc] 27)).heap.size = w.heap.size + 2 := by simp
  have s3 : (((w.alloc (.cells #[.slice a n cap] 24)).alloc (.cells #[.int .i64 p.frm, .int .i64 p.to, .slice pa pn pc] 27)).alloc (.cells #[.slice none 0 0] 24)).heap.size = w.heap.size + 3 := by simp
  have e1 := World.cell?_alloc_new w #[.slice a n cap] 24 0
  have e2 := fun i => World.cell?_alloc_new (w.alloc (.cells #[.slice a n cap] 24)) #[.int .i64 p.frm, .int .i64 p.to, .slice pa pn pc] 27 i
  have e3 := World.cell?_alloc_new ((w.alloc (.cells #[.slice a n cap] 24)).alloc (.cells #[.int .i64 p.frm, .int .i64 p.to, .slice pa pn pc] 27)) #[.slice none 0 0] 24 0
  rw [s1] at e2
  rw [s2] at e3
  have h2 : Below (w.heap.size + 1) (w.alloc (.cells #[.slice a n cap] 24)) ((w.alloc (.cells #[.slice a n cap] 24)).alloc (.cells #[.int .i64 p.frm, .int .i64 p.to, .slice pa pn pc] 27)) := (Below.refl _ _).alloc (by rw [s1]; exact Nat.le_refl _) _
  have h3 : Below (w.heap.size + 2) ((w.alloc (.cells #[.slice a n cap] 24)).alloc (.cells #[.int .i64 p.frm, .int .i64 p.to, .slice pa pn pc] 27)) (((w.alloc (.cells #[.slice a n cap] 24)).alloc (.cells #[.int .i64 p.frm, .int .i64 p.to, .slice pa pn pc] 27)).alloc (.cells #[.slice none 0 0] 24)) := (Below.refl _ _).alloc (by rw [s2]; exact Nat.le_refl _) _
  have b3 : (((w.alloc (.cells #[.slice a n cap] 24)).alloc (.cells #[.int .i64 p.frm, .int .i64 p.to, .slice pa pn pc] 27)).alloc (.cells #[.slice none 0 0] 24)).heap[w.heap.size + 2]? = some (.cells #[.slice none 0 0] 24 (0, 0)) := by rw [← s2]; exact heap_alloc_new ((w.alloc (.cells #[.slice a n cap] 24)).alloc (.cells #[.int .i64 p.frm, .int .i64 p.to, .slice pa pn pc] 27)) _
  have fr : ∀ {g : Nat} {u : World}, u.heap[g]? = some (.cells #[.slice none 0 0] 24 (0, 0)) → u.frozen? ⟨g, 0, none⟩ = false := fun {g u} h => by unfold World.frozen?; rw [h]; simp
  have h23 : Below (w.heap.size + 1) (w.alloc (.cells #[.slice a n cap] 24)) (((w.alloc (.cells #[.slice a n cap] 24)).alloc (.cells #[.int .i64 p.frm, .int .i64 p.to, .slice pa pn pc] 27)).alloc (.cells #[.slice none 0 0] 24)) := h2.trans (h3.mono (by omega))
  have k := fun i => h3.cell (p := ⟨w.heap.size + 1, i, none⟩) (show w.heap.size + 1 < w.heap.size + 2 by omega)
  exact ⟨B1.trans (h23.mono (by omega)), (h23.cell (p := ⟨w.heap.size, 0, none⟩) (show w.heap.size < w.heap.size + 1 by omega)).trans e1,
    ⟨(k 0).trans (e2 0), (k 1).trans (e2 1), (k 2).trans (e2 2)⟩, ⟨e3, fr b3⟩, s3⟩
theorem pk_snoc {xs : List PPkt} {p : PPkt} {k : Nat} (hk : k < xs.length) : (xs ++ [p]).take (k + 1) = (xs ++ [p]).take k ++ [pk xs k] := by
  rw [List.take_append_of_le_length (by omega), List.take_append_of_le_length (by omega), pk_take hk]
theorem pk_last {xs : List PPkt} {p : PPkt} : (xs ++ [p]).take (xs.length + 1) = (xs ++ [p]).take xs.length ++ [p] := by
  rw [List.take_of_length_le (by simp), List.take_append_of_le_length (Nat.le_refl _), List.take_length]
set_option maxRecDepth 100000 in
set_option maxHeartbeats 16000000 in
/-- Send, where there is room -/
theorem rsendN {v pv : Value} {xs : List PPkt} {p : PPkt} {w : World} (hv : IsNet w v xs) (hpv : IsPkt w pv p) (hn : xs.length ≤ 63) : Calls Try.prog 10 #[v, pv] w (MadeNE (fun _ _ => True) w (xs ++ [p]) 0) := by
  obtain ⟨v, rfl, hv⟩ := hv
  obtain ⟨pv, rfl, hp⟩ := hpv
  obtain ⟨a, cap, rfl, g1, g2, -, h⟩ := hv.parts
  obtain ⟨pa, pn, pc, rfl⟩ : ∃ a n c, pv = .slice a n c := by obtain ⟨a, c, h, -⟩ := hp.parts; exact ⟨a, _, c, h⟩
  have PS : Hid (∀ k, k < xs.length → (xs ++ [p]).take (k + 1) = (xs ++ [p]).take k ++ [pk xs k]) := Lib.hid (fun k hk => pk_snoc hk)
  have PE : Hid ((xs ++ [p]).take (xs.length + 1) = (xs ++ [p]).take xs.length ++ [p]) := Lib.hid pk_last
  have PL : Hid (∀ k, ((xs ++ [p]).take k).length ≤ xs.length + 1) := Lib.hid (fun k => by rw [List.length_take, List.length_append]; simp; omega)
  have PN : Hid ((xs ++ [p]).take (xs.length + 1) = xs ++ [p]) := Lib.hid (List.take_of_length_le (by simp))
  obtain ⟨n, hN⟩ : ∃ n, xs.length = n := ⟨_, rfl⟩
  rw [hN] at h g1 hn PS PL PN PE ⊢
  have HS := Lib.hid h
  have HP := Lib.hid hp
  have P0 : Hid ((xs ++ [p]).take 0 = []) := Lib.hid (by simp)
  obtain ⟨P, hP⟩ : ∃ P : Nat → List PPkt, P = fun k => (xs ++ [p]).take k := ⟨_, rfl⟩
  replace PS : Hid (∀ k, k < n → P (k + 1) = P k ++ [pk xs k]) := Lib.hid (by rw [hP]; exact PS.out)
  replace PE : Hid (P (n + 1) = P n ++ [p]) := Lib.hid (by rw [hP]; exact PE.out)
  replace PL : Hid (∀ k, (P k).length ≤ n + 1) := Lib.hid (by rw [hP]; exact PL.out)
  replace PN : Hid (P (n + 1) = xs ++ [p]) := Lib.hid (by rw [hP]; exact PN.out)
  replace P0 : Hid (P 0 = []) := Lib.hid (by rw [hP]; exact P0.out)
  have T3 := Lib.hid (send_boxes w a n cap p pa pn pc)
  clear hv h hN hP hp
  generalize xs ++ [p] = res at *
  go_enter Try.func10, Try.ntmps10
  go_upto_region 1 with fail
  generalize (((w.alloc (.cells #[.slice a n cap] 24)).alloc (.cells #[.int .i64 p.frm, .int .i64 p.to, .slice pa pn pc] 27)).alloc (.cells #[.slice none 0 0] 24)) = w1 at *
  obtain ⟨G, c0, c8, ⟨d0, d1⟩, hz⟩ := T3.out
  have hlt63 : ¬ (63 : Int) < (n : Int) := by omega
  have GH := Lib.hid G
  have ZH := Lib.hid hz
  have C0 := Lib.hid c0
  have C8 := Lib.hid c8
  have D0 := Lib.hid d0
  have D1 := Lib.hid d1
  have NB := Lib.hid (heap_alloc_new w1 (.cells #[.slice none 0 0] 24))
  have G4 : Hid (Below w1.heap.size w1 (w1.alloc (.cells #[.slice none 0 0] 24))) := Lib.hid ((Below.refl _ _).alloc (Nat.le_refl _) _)
  have Z4 : Hid ((w1.alloc (.cells #[.slice none 0 0] 24)).heap.size = w1.heap.size + 1) := Lib.hid (by simp)
  clear G hz T3 d0 d1 c8
  go_upto_region 4 with fail
  clear c0
  generalize (w1.alloc (.cells #[.slice none 0 0] 24)) = w4 at *
  have e0 : Hid (w4.cell? ⟨w1.heap.size, 0, none⟩ = some (.slice none 0 0)) := Lib.hid (by simp [World.cell?, NB.out])
  have e1 : Hid (w4.frozen? ⟨w1.heap.size, 0, none⟩ = false) := Lib.hid (by unfold World.frozen?; rw [NB.out]; simp)
  have GA : Hid (Below w.heap.size w w4) := Lib.hid (GH.out.trans (G4.out.mono GH.out.size))
  have kc := fun (b i : Nat) (hb : b < w1.heap.size) => G4.out.cell (p := ⟨b, i, none⟩) hb
  have f0 := (kc w.heap.size 0 (by rw [ZH.out]; omega)).trans C0.out
  have f8 : w4.cell? ⟨w.heap.size + 1, 0, none⟩ = some (.int .i64 p.frm) ∧ w4.cell? ⟨w.heap.size + 1, 1, none⟩ = some (.int .i64 p.to) ∧ w4.cell? ⟨w.heap.size + 1, 2, none⟩ = some (.slice pa pn pc) := ⟨(kc _ 0 (by rw [ZH.out]; omega)).trans C8.out.1, (kc _ 1 (by rw [ZH.out]; omega)).trans C8.out.2.1, (kc _ 2 (by rw [ZH.out]; omega)).trans C8.out.2.2⟩
  have fd0 := (kc (w.heap.size + 1 + 1) 0 (by rw [ZH.out]; omega)).trans D0.out
  have fd1 : w4.frozen? ⟨w.heap.size + 1 + 1, 0, none⟩ = false := (G4.out.frozen (p := ⟨w.heap.size + 1 + 1, 0, none⟩) (show w.heap.size + 1 + 1 < _ by rw [ZH.out]; omega)).trans D1.out
  have FF := Lib.hid (And.intro f0 (And.intro f8 (And.intro fd0 fd1)))
  clear f0 f8 fd0 fd1 kc C0 C8 D0 D1 NB G4 GH
  generalize w1.heap.size = gb at *
  have HG : Hid (gb = w.heap.size + 3) := Lib.hid ZH.out
  clear ZH
  go_wp2_with fail
  go_loopw [7] (fun iv wr => ∃ (k : Nat) (a2 : Option Addr) (m2 c2 : Nat), k ≤ n + 1 ∧ iv = .int .i64 k ∧ Below w.heap.size w wr ∧ gb + 1 ≤ wr.heap.size ∧ wr.cell? ⟨w.heap.size, 0, none⟩ = some (.slice a n cap) ∧
      (wr.cell? ⟨w.heap.size + 1, 0, none⟩ = some (.int .i64 p.frm) ∧ wr.cell? ⟨w.heap.size + 1, 1, none⟩ = some (.int .i64 p.to) ∧ wr.cell? ⟨w.heap.size + 1, 2, none⟩ = some (.slice pa pn pc)) ∧
      (wr.cell? ⟨w.heap.size + 1 + 1, 0, none⟩ = some (.slice none 0 0) ∧ wr.frozen? ⟨w.heap.size + 1 + 1, 0, none⟩ = false) ∧
      (wr.cell? ⟨gb, 0, none⟩ = some (.slice a2 m2 c2) ∧ wr.frozen? ⟨gb, 0, none⟩ = false) ∧ OwnJ (fun b => b < w.heap.size ∨ gb + 1 ≤ b) LPkt (gb + 1) wr (.slice a2 m2 c2) (P k)) (fun iv _ => n + 1 - (intOf iv).toNat)
  case atStart => exact ⟨0, none, 0, 0, Nat.zero_le _, rfl, GA.out, Nat.le_of_eq Z4.out.symm, FF.out.1, FF.out.2.1, ⟨FF.out.2.2.1, FF.out.2.2.2⟩, ⟨e0.out, e1.out⟩, by rw [P0.out]; exact OwnJ.nil _ _ _⟩
  clear FF e0 e1 GA Z4
  case round =>
    obtain ⟨k, a2, m2, c2, hk, rfl, hB, hZ, c0, ⟨p0, p1, p2⟩, ⟨d0, d1⟩, ⟨e0, e1⟩, hO⟩ := hrel
    have HB := Lib.hid hB
    have HZ := Lib.hid hZ
    have HO := Lib.hid hO
    have D0 := Lib.hid d0
    have D1 := Lib.hid d1
    have E0 := Lib.hid e0
    have E1 := Lib.hid e1
    have C0 := Lib.hid c0
    have C8 : Hid (wr.cell? ⟨w.heap.size + 1, 0, none⟩ = some (.int .i64 p.frm) ∧ wr.cell? ⟨w.heap.size + 1, 1, none⟩ = some (.int .i64 p.to) ∧ wr.cell? ⟨w.heap.size + 1, 2, none⟩ = some (.slice pa pn pc)) := Lib.hid ⟨p0, p1, p2⟩
    clear hB hO hZ
    have LK := Lib.hid (PL.out k)
    by_cases hlt : k < n
    · have kne : ((k : Int) == (n : Int)) = false := by simp; omega
      have kle : (k : Int) ≤ n := by omega
      have PK := Lib.hid (PS.out k hlt)
      obtain ⟨lb, lo, rfl, hc⟩ := pkts_at HS.out (by omega)
      obtain ⟨da, dn, dc, hW⟩ := hc k hlt
      have BQ : Hid (Sq LByte (fun b => b < w.heap.size) wr.drew (.slice da dn dc) (pk xs k).bytes) := Lib.hid (Sq.agree (hW w (Below.refl _ _)).2.2.1 fun b hb => HB.out.block b hb)
      have XW : Hid (∀ u, Below w.heap.size wr u → u.cell? ⟨lb, lo + k * 3, none⟩ = some (.int .i64 (pk xs k).frm) ∧ u.cell? ⟨lb, lo + k * 3 + 1, none⟩ = some (.int .i64 (pk xs k).to) ∧ u.cell? ⟨lb, lo + k * 3 + 2, none⟩ = some (.slice da dn dc)) := Lib.hid (fun u hb => (hW u (HB.out.trans hb)).1)
      have k1 : (k : Int) < n := by omega
      have k2 : (n : Int) ≤ cap := by omega
      have k3 : (cap : Int) ≤ 9223372036854775807 := by omega
      clear hc hW d0 d1 p0 p1 p2
      generalize pk xs k = x at *
      have KF : Hid (∀ u, Below w.heap.size wr u → u.cell? ⟨w.heap.size, 0, none⟩ = some (.slice (some ⟨lb, lo, none⟩) n cap) → Below w.heap.size wr u ∧ u.cell? ⟨w.heap.size, 0, none⟩ = some (.slice (some ⟨lb, lo, none⟩) n cap) ∧ (u.cell? ⟨lb, lo + k * 3, none⟩ = some (.int .i64 x.frm) ∧ u.cell? ⟨lb, lo + k * 3 + 1, none⟩ = some (.int .i64 x.to) ∧ u.cell? ⟨lb, lo + k * 3 + 2, none⟩ = some (.slice da dn dc))) := Lib.hid (fun u hb h => ⟨hb, h, XW.out u hb⟩)
      have KE : Hid (∀ u, Below wr.heap.size wr u → Below w.heap.size wr u ∧ u.cell? ⟨w.heap.size, 0, none⟩ = some (.slice (some ⟨lb, lo, none⟩) n cap) ∧ (u.cell? ⟨lb, lo + k * 3, none⟩ = some (.int .i64 x.frm) ∧ u.cell? ⟨lb, lo + k * 3 + 1, none⟩ = some (.int .i64 x.to) ∧ u.cell? ⟨lb, lo + k * 3 + 2, none⟩ = some (.slice da dn dc))) := Lib.hid (fun u hb => KF.out u (hb.mono HB.out.size) ((hb.cell (p := ⟨w.heap.size, 0, none⟩) (show w.heap.size < _ by have := HZ.out; have := HG.out; omega)).trans C0.out))
      have A2 : Hid (Below wr.heap.size wr (wr.alloc (.cells #[.int .i64 x.frm, .int .i64 x.to, .slice da dn dc] 27)).drew) := Lib.hid ((Below.refl _ _).drew.alloc (Nat.le_refl _) _)
      have Y2 : Hid ((wr.alloc (.cells #[.int .i64 x.frm, .int .i64 x.to, .slice da dn dc] 27)).drew.cell? ⟨gb, 0, none⟩ = some (.slice a2 m2 c2)) := Lib.hid ((A2.out.cell (p := ⟨gb, 0, none⟩) (show gb < _ by have := HZ.out; omega)).trans E0.out)
      have UZ : Hid ((wr.alloc (.cells #[.int .i64 x.frm, .int .i64 x.to, .slice da dn dc] 27)).drew.heap.size = wr.heap.size + 1) := Lib.hid (by simp)
      have hZ_ := HZ.out
      have hg_ := HG.out
      have L1 : Hid (Sq LPkt (fun b => (b < w.heap.size ∨ gb + 1 ≤ b) ∧ b < wr.heap.size + 1 ∧ Value.ownBlock (.slice a2 m2 c2) ≠ some b) (wr.alloc (.cells #[.int .i64 x.frm, .int .i64 x.to, .slice da dn dc] 27)).drew (.slice (some ⟨wr.heap.size, 0, none⟩) 1 1) [x]) := Lib.hid (one_pkt (W := wr.drew) (x := x) (N := fun b => (b < w.heap.size ∨ gb + 1 ≤ b) ∧ b < wr.heap.size + 1 ∧ Value.ownBlock (.slice a2 m2 c2) ≠ some b) BQ.out (fun b hb => by show b < wr.heap.size; omega) (fun b hb => ⟨.inl hb, by omega, fun e => by have := (HO.out.lt b e).1; omega⟩) ⟨.inr hZ_, Nat.lt_succ_self _, fun e => by have h1 : wr.heap.size < wr.heap.size := (HO.out.lt _ e).2; omega⟩)
      clear hZ_ hg_
      go_upto_region 9 with fail
      clear c0 e0 e1
      refine wp_region_held_drew (S := fun u' => Below w.heap.size wr u' ∧ u'.cell? ⟨w.heap.size, 0, none⟩ = some (.slice (some ⟨lb, lo, none⟩) n cap) ∧ (u'.cell? ⟨lb, lo + k * 3, none⟩ = some (.int .i64 x.frm) ∧ u'.cell? ⟨lb, lo + k * 3 + 1, none⟩ = some (.int .i64 x.to) ∧ u'.cell? ⟨lb, lo + k * 3 + 2, none⟩ = some (.slice da dn dc))) (by kernel_rfl) ?_ (fun hHeld => ?_)
      · (exact KE.out _ (Below.refl _ _).drew)
      simp only [List.size_toArray, List.length_cons, List.length_nil, Nat.zero_add, Nat.reduceAdd]
      refine wpAnyH_take (i := 0) (v := ?_) rfl (by kernel_rfl) (by kernel_rfl) (by kernel_rfl) (fun _ _ _ h => h) (Or.inl ⟨by rfl, ?_⟩) hHeld ?_
      rotate_left
      · (intro w' hSw; (try dsimp only at hSw); go_simp; try with_reducible rfl)
      simp only [List.getElem_toArray, List.getElem_cons_zero, Act.put, List.setIfInBounds_toArray, List.set_cons_zero, List.set_cons_succ]
      refine wpAnyH_take (i := 2) (v := ?_) rfl (by kernel_rfl) (by kernel_rfl) (by kernel_rfl) (fun _ _ _ h => h) (Or.inl ⟨by rfl, ?_⟩) hHeld ?_
      rotate_left
      · (intro w' hSw; (try dsimp only at hSw); go_simp; try with_reducible rfl)
      simp only [List.getElem_toArray, List.getElem_cons_zero, List.getElem_cons_succ, Act.put, List.setIfInBounds_toArray, List.set_cons_zero, List.set_cons_succ]
      refine wpAnyH_take (i := 3) (v := ?_) rfl (by kernel_rfl) (by kernel_rfl) (by kernel_rfl) (fun _ _ _ h => h) (Or.inl ⟨by rfl, ?_⟩) hHeld ?_
      rotate_left
      · (intro w' hSw; (try dsimp only at hSw); go_simp; try with_reducible rfl)
      simp only [List.getElem_toArray, List.getElem_cons_zero, List.getElem_cons_succ, Act.put, List.setIfInBounds_toArray, List.set_cons_zero, List.set_cons_succ]
      refine wpAnyH_take (i := 4) (v := ?_) rfl (by kernel_rfl) (by kernel_rfl) (by kernel_rfl) (fun _ _ _ h => h) (Or.inl ⟨by rfl, ?_⟩) hHeld ?_
      rotate_left
      · (intro w' hSw; (try dsimp only at hSw); go_simp; try with_reducible rfl)
      simp only [List.getElem_toArray, List.getElem_cons_zero, List.getElem_cons_succ, Act.put, List.setIfInBounds_toArray, List.set_cons_zero, List.set_cons_succ]
      refine wpAnyH_take (i := 5) (v := ?_) rfl (by kernel_rfl) (by kernel_rfl) (by kernel_rfl) (fun _ _ _ h => h) (Or.inl ⟨by rfl, ?_⟩) hHeld ?_
      rotate_left
      · (intro w' hSw; (try dsimp only at hSw); go_simp; try with_reducible rfl)
      simp only [List.getElem_toArray, List.getElem_cons_zero, List.getElem_cons_succ, Act.put, List.setIfInBounds_toArray, List.set_cons_zero, List.set_cons_succ]
      refine wpAnyH_take (i := 6) (v := ?_) rfl (by kernel_rfl) (by kernel_rfl) (by kernel_rfl) (fun _ _ _ h => h) (Or.inl ⟨by rfl, ?_⟩) hHeld ?_
      rotate_left
      · (intro w' hSw; (try dsimp only at hSw); go_simp; try with_reducible rfl)
      simp only [List.getElem_toArray, List.getElem_cons_zero, List.getElem_cons_succ, Act.put, List.setIfInBounds_toArray, List.set_cons_zero, List.set_cons_succ]
      refine wpAnyH_ready (rs := [1, 7]) (by kernel_rfl) (by simp) ?_
      refine AllReadyH.cons rfl (fun K hK => ?_) (AllReadyH.cons rfl (fun K hK => ?_) AllReadyH.nil)
      · have yy : wr.drew.cell? ⟨gb, 0, none⟩ = some (.slice a2 m2 c2) := E0.out
        go_simp
        refine hK.out _ _ (KE.out _ (Below.refl _ _).drew) (fun hHeld => ?_)
        clear hK K yy
        refine wpAnyH_ready (rs := [7]) (by kernel_rfl) (by simp) ?_
        refine AllReadyH.cons rfl (fun K hK => ?_) AllReadyH.nil
        go_simp
        refine hK.out _ _ (KE.out _ A2.out) (fun hHeld => ?_)
        clear hK K
        generalize (wr.alloc (.cells #[.int .i64 x.frm, .int .i64 x.to, .slice da dn dc] 27)).drew = ua at *
        refine wpAnyH_ready (rs := [8]) (by kernel_rfl) (by simp) ?_
        refine AllReadyH.cons rfl (fun K hK => ?_) AllReadyH.nil
        have hZ_ := HZ.out
        have hg := HG.out
        refine step_append_elJ (fun b => b < w.heap.size ∨ gb + 1 ≤ b) LPkt (by rfl) (.tmp 32) (.tmp 38) (by rfl) (gb + 1) (by rfl) (HO.out.below A2.out (Nat.le_refl _)) (by rfl) L1.out (fun vs x h => LPkt.mono h fun b hb => ⟨hb.1, by rw [UZ.out]; exact hb.2.1, hb.2.2⟩) (by have := LK.out; simp; omega) (by rw [UZ.out]; omega) ?_
        intro v2 u2 ho2 hg2
        have B2 : Hid (Below (gb + 1) wr u2) := Lib.hid ((A2.out.mono hZ_).grown hg2 (by have := A2.out.size; omega) (fun j hj => (HO.out.lt j hj).1))
        have O2 := Lib.hid ho2
        obtain ⟨a3, c3, rfl, -, -, -, -⟩ := ho2.own.parts
        have z1 := (B2.out.cell (p := ⟨gb, 0, none⟩) (show gb < _ by omega)).trans E0.out
        have z2 := (B2.out.frozen (p := ⟨gb, 0, none⟩) (show gb < _ by omega)).trans E1.out
        clear hZ_ ho2 hg2
        refine hK.out _ _ (KF.out _ (B2.out.mono (by omega)) ((B2.out.cell (p := ⟨w.heap.size, 0, none⟩) (show w.heap.size < _ by omega)).trans C0.out)) (fun hHeld => ?_)
        clear hK K hg
        refine wpAnyH_take (i := 9) (v := ?_) rfl (by kernel_rfl) (by kernel_rfl) (by kernel_rfl) (fun _ _ _ h => h) (Or.inl ⟨by rfl, ?_⟩) hHeld ?_
        rotate_left
        · (intro w' hSw; (try dsimp only at hSw); go_simp; try with_reducible rfl)
        simp only [List.getElem_toArray, List.getElem_cons_zero, List.getElem_cons_succ, Act.put, List.setIfInBounds_toArray, List.set_cons_zero, List.set_cons_succ]
        refine wpAnyH_ready (rs := [10]) (by kernel_rfl) (by simp) ?_
        refine AllReadyH.cons rfl (fun K hK => ?_) AllReadyH.nil
        go_simp
        have hg := HG.out
        refine hK.out _ _ (KF.out _ ((B2.out.mono (by omega)).setCell (p := ⟨gb, 0, none⟩) (show w.heap.size ≤ gb by omega) _) ((World.cell?_setCell_other u2 ⟨gb, 0, none⟩ ⟨w.heap.size, 0, none⟩ _ (by simp <;> omega)).trans ((B2.out.cell (p := ⟨w.heap.size, 0, none⟩) (show w.heap.size < _ by omega)).trans C0.out))) (fun hHeld => ?_)
        clear hK K
        refine wpAnyH_done (by kernel_rfl) ?_ _
        clear hHeld
        have C : ∀ z a v, wr.cell? a = some v → a.block < gb + 1 → (⟨gb, 0, none⟩ : Addr) ≠ a → (u2.setCell ⟨gb, 0, none⟩ z).cell? a = some v := fun z a v h hb ne => (World.cell?_setCell_other _ _ _ _ ne).trans ((B2.out.cell hb).trans h)
        have F : ∀ z a, wr.frozen? a = false → a.block < gb + 1 → (u2.setCell ⟨gb, 0, none⟩ z).frozen? a = false := fun z a h hb => (World.frozen?_setCell _ _ _ _).trans ((B2.out.frozen hb).trans h)
        have EQ : Hid (∀ z, (u2.setCell ⟨gb, 0, none⟩ z).cell? ⟨gb, 0, none⟩ = some z) := Lib.hid (fun z => World.cell?_setCell_same u2 ⟨gb, 0, none⟩ z z1)
        have CF := Lib.hid (And.intro C F)
        clear C F z1 z2 hg
        go_wp2_with fail
        go_roundw
        case rel =>
          obtain ⟨C, F⟩ := CF.out
          have hg := HG.out
          have h8 := C8.out
          refine ⟨k + 1, a3, _, c3, by omega, by go_num, (HB.out.trans (B2.out.mono (by omega))).setCell (by show w.heap.size ≤ gb; omega) _, by have := B2.out.size; have := HZ.out; simp [World.setCell]; omega, C _ _ _ C0.out (by show w.heap.size < _; omega) (by simp <;> omega), ⟨C _ _ _ h8.1 (by show w.heap.size + 1 < _; omega) (by simp <;> omega), C _ _ _ h8.2.1 (by show w.heap.size + 1 < _; omega) (by simp <;> omega), C _ _ _ h8.2.2 (by show w.heap.size + 1 < _; omega) (by simp <;> omega)⟩, ⟨C _ _ _ D0.out (by show w.heap.size + 1 + 1 < _; omega) (by simp <;> omega), F _ _ D1.out (by show w.heap.size + 1 + 1 < _; omega)⟩, ⟨EQ.out _, F _ _ E1.out (by show gb < _; omega)⟩, ?_⟩
          rw [PK.out]
          have h := O2.out
          rw [show (P k ++ [x]).length = (P k).length + 1 by simp] at h
          exact h.kept (by simp [World.setCell]) fun b hb h => Below.heap_setCell _ _ _ _ (by have h2 : (b < w.heap.size ∨ gb + 1 ≤ b) ∨ gb + 1 ≤ b := h; show b ≠ gb; omega)
        case measure => simp [intOf] <;> omega
      · go_simp
        refine hK.out _ _ (KE.out _ A2.out) (fun hHeld => ?_)
        clear hK K
        generalize (wr.alloc (.cells #[.int .i64 x.frm, .int .i64 x.to, .slice da dn dc] 27)).drew = ua at *
        refine wpAnyH_ready (rs := [1]) (by kernel_rfl) (by simp) ?_
        refine AllReadyH.cons rfl (fun K hK => ?_) AllReadyH.nil
        have yy : ua.cell? ⟨gb, 0, none⟩ = some (.slice a2 m2 c2) := Y2.out
        go_simp
        refine hK.out _ _ (KE.out _ A2.out) (fun hHeld => ?_)
        clear hK K yy
        refine wpAnyH_ready (rs := [8]) (by kernel_rfl) (by simp) ?_
        refine AllReadyH.cons rfl (fun K hK => ?_) AllReadyH.nil
        have hZ_ := HZ.out
        have hg := HG.out
        refine step_append_elJ (fun b => b < w.heap.size ∨ gb + 1 ≤ b) LPkt (by rfl) (.tmp 32) (.tmp 38) (by rfl) (gb + 1) (by rfl) (HO.out.below A2.out (Nat.le_refl _)) (by rfl) L1.out (fun vs x h => LPkt.mono h fun b hb => ⟨hb.1, by rw [UZ.out]; exact hb.2.1, hb.2.2⟩) (by have := LK.out; simp; omega) (by rw [UZ.out]; omega) ?_
        intro v2 u2 ho2 hg2
        have B2 : Hid (Below (gb + 1) wr u2) := Lib.hid ((A2.out.mono hZ_).grown hg2 (by have := A2.out.size; omega) (fun j hj => (HO.out.lt j hj).1))
        have O2 := Lib.hid ho2
        obtain ⟨a3, c3, rfl, -, -, -, -⟩ := ho2.own.parts
        have z1 := (B2.out.cell (p := ⟨gb, 0, none⟩) (show gb < _ by omega)).trans E0.out
        have z2 := (B2.out.frozen (p := ⟨gb, 0, none⟩) (show gb < _ by omega)).trans E1.out
        clear hZ_ ho2 hg2
        refine hK.out _ _ (KF.out _ (B2.out.mono (by omega)) ((B2.out.cell (p := ⟨w.heap.size, 0, none⟩) (show w.heap.size < _ by omega)).trans C0.out)) (fun hHeld => ?_)
        clear hK K hg
        refine wpAnyH_take (i := 9) (v := ?_) rfl (by kernel_rfl) (by kernel_rfl) (by kernel_rfl) (fun _ _ _ h => h) (Or.inl ⟨by rfl, ?_⟩) hHeld ?_
        rotate_left
        · (intro w' hSw; (try dsimp only at hSw); go_simp; try with_reducible rfl)
        simp only [List.getElem_toArray, List.getElem_cons_zero, List.getElem_cons_succ, Act.put, List.setIfInBounds_toArray, List.set_cons_zero, List.set_cons_succ]
        refine wpAnyH_ready (rs := [10]) (by kernel_rfl) (by simp) ?_
        refine AllReadyH.cons rfl (fun K hK => ?_) AllReadyH.nil
        go_simp
        have hg := HG.out
        refine hK.out _ _ (KF.out _ ((B2.out.mono (by omega)).setCell (p := ⟨gb, 0, none⟩) (show w.heap.size ≤ gb by omega) _) ((World.cell?_setCell_other u2 ⟨gb, 0, none⟩ ⟨w.heap.size, 0, none⟩ _ (by simp <;> omega)).trans ((B2.out.cell (p := ⟨w.heap.size, 0, none⟩) (show w.heap.size < _ by omega)).trans C0.out))) (fun hHeld => ?_)
        clear hK K
        refine wpAnyH_done (by kernel_rfl) ?_ _
        clear hHeld
        have C : ∀ z a v, wr.cell? a = some v → a.block < gb + 1 → (⟨gb, 0, none⟩ : Addr) ≠ a → (u2.setCell ⟨gb, 0, none⟩ z).cell? a = some v := fun z a v h hb ne => (World.cell?_setCell_other _ _ _ _ ne).trans ((B2.out.cell hb).trans h)
        have F : ∀ z a, wr.frozen? a = false → a.block < gb + 1 → (u2.setCell ⟨gb, 0, none⟩ z).frozen? a = false := fun z a h hb => (World.frozen?_setCell _ _ _ _).trans ((B2.out.frozen hb).trans h)
        have EQ : Hid (∀ z, (u2.setCell ⟨gb, 0, none⟩ z).cell? ⟨gb, 0, none⟩ = some z) := Lib.hid (fun z => World.cell?_setCell_same u2 ⟨gb, 0, none⟩ z z1)
        have CF := Lib.hid (And.intro C F)
        clear C F z1 z2 hg
        go_wp2_with fail
        go_roundw
        case rel =>
          obtain ⟨C, F⟩ := CF.out
          have hg := HG.out
          have h8 := C8.out
          refine ⟨k + 1, a3, _, c3, by omega, by go_num, (HB.out.trans (B2.out.mono (by omega))).setCell (by show w.heap.size ≤ gb; omega) _, by have := B2.out.size; have := HZ.out; simp [World.setCell]; omega, C _ _ _ C0.out (by show w.heap.size < _; omega) (by simp <;> omega), ⟨C _ _ _ h8.1 (by show w.heap.size + 1 < _; omega) (by simp <;> omega), C _ _ _ h8.2.1 (by show w.heap.size + 1 < _; omega) (by simp <;> omega), C _ _ _ h8.2.2 (by show w.heap.size + 1 < _; omega) (by simp <;> omega)⟩, ⟨C _ _ _ D0.out (by show w.heap.size + 1 + 1 < _; omega) (by simp <;> omega), F _ _ D1.out (by show w.heap.size + 1 + 1 < _; omega)⟩, ⟨EQ.out _, F _ _ E1.out (by show gb < _; omega)⟩, ?_⟩
          rw [PK.out]
          have h := O2.out
          rw [show (P k ++ [x]).length = (P k).length + 1 by simp] at h
          exact h.kept (by simp [World.setCell]) fun b hb h => Below.heap_setCell _ _ _ _ (by have h2 : (b < w.heap.size ∨ gb + 1 ≤ b) ∨ gb + 1 ≤ b := h; show b ≠ gb; omega)
        case measure => simp [intOf] <;> omega
    · by_cases hkn : k = n
      · subst hkn
        have keq : ((k : Int) == (k : Int)) = true := by simp
        have PK := Lib.hid PE.out
        have BQ : Hid (Sq LByte (fun b => b < w.heap.size) wr (.slice pa pn pc) p.bytes) := Lib.hid (Sq.agree HP.out fun b hb => HB.out.block b hb)
        have hZ_ := HZ.out
        have hg_ := HG.out
        clear d0 d1
        generalize hx : p = x at *
        have L1 : Hid (Sq LPkt (fun b => (b < w.heap.size ∨ gb + 1 ≤ b) ∧ b < wr.heap.size + 1 ∧ Value.ownBlock (.slice a2 m2 c2) ≠ some b) (wr.alloc (.cells #[.int .i64 x.frm, .int .i64 x.to, .slice pa pn pc] 27)) (.slice (some ⟨wr.heap.size, 0, none⟩) 1 1) [x]) := Lib.hid (one_pkt (W := wr) (x := x) (N := fun b => (b < w.heap.size ∨ gb + 1 ≤ b) ∧ b < wr.heap.size + 1 ∧ Value.ownBlock (.slice a2 m2 c2) ≠ some b) BQ.out (fun b hb => by show b < wr.heap.size; omega) (fun b hb => ⟨.inl hb, by omega, fun e => by have := (HO.out.lt b e).1; omega⟩) ⟨.inr hZ_, Nat.lt_succ_self _, fun e => by have h1 : wr.heap.size < wr.heap.size := (HO.out.lt _ e).2; omega⟩)
        clear hZ_ hg_
        clear hx
        go_wp2_with (at_builtin; refine wpList_append_elJ (fun b => b < w.heap.size ∨ gb + 1 ≤ b) LPkt rfl (.tmp 26) (.tmp 28) rfl (gb + 1) rfl (HO.out.alloc _) rfl L1.out (fun vs x h => LPkt.mono h fun b hb => ⟨hb.1, by simp; exact hb.2.1, hb.2.2⟩) (by have := LK.out; simp; omega) (by have := HZ.out; simp; omega) ?_)
        intro v2 u2 ho2 hg2 _
        have hZ_ := HZ.out
        have hg := HG.out
        have B2 : Hid (Below (gb + 1) wr u2) := Lib.hid ((((Below.refl wr.heap.size wr).alloc (Nat.le_refl _) (.cells #[.int .i64 x.frm, .int .i64 x.to, .slice pa pn pc] 27)).mono hZ_).grown hg2 (by simp <;> omega) (fun j hj => (HO.out.lt j hj).1))
        have O2 := Lib.hid ho2
        obtain ⟨a3, c3, rfl, -, -, -, -⟩ := ho2.own.parts
        have z1 := (B2.out.cell (p := ⟨gb, 0, none⟩) (show gb < _ by omega)).trans E0.out
        have z2 := (B2.out.frozen (p := ⟨gb, 0, none⟩) (show gb < _ by omega)).trans E1.out
        have C : ∀ z a v, wr.cell? a = some v → a.block < gb + 1 → (⟨gb, 0, none⟩ : Addr) ≠ a → (u2.setCell ⟨gb, 0, none⟩ z).cell? a = some v := fun z a v h hb ne => (World.cell?_setCell_other _ _ _ _ ne).trans ((B2.out.cell hb).trans h)
        have F : ∀ z a, wr.frozen? a = false → a.block < gb + 1 → (u2.setCell ⟨gb, 0, none⟩ z).frozen? a = false := fun z a h hb => (World.frozen?_setCell _ _ _ _).trans ((B2.out.frozen hb).trans h)
        have EQ : Hid (∀ z, (u2.setCell ⟨gb, 0, none⟩ z).cell? ⟨gb, 0, none⟩ = some z) := Lib.hid (fun z => World.cell?_setCell_same u2 ⟨gb, 0, none⟩ z z1)
        have CF := Lib.hid (And.intro C F)
        clear C F hZ_ ho2 hg2 hg
        go_wp2_with fail
        go_roundw
        case rel =>
          obtain ⟨C, F⟩ := CF.out
          have hg := HG.out
          have h8 := C8.out
          refine ⟨k + 1, a3, _, c3, by omega, by go_num, (HB.out.trans (B2.out.mono (by omega))).setCell (by show w.heap.size ≤ gb; omega) _, by have := B2.out.size; have := HZ.out; simp [World.setCell]; omega, C _ _ _ C0.out (by show w.heap.size < _; omega) (by simp <;> omega), ⟨C _ _ _ h8.1 (by show w.heap.size + 1 < _; omega) (by simp <;> omega), C _ _ _ h8.2.1 (by show w.heap.size + 1 < _; omega) (by simp <;> omega), C _ _ _ h8.2.2 (by show w.heap.size + 1 < _; omega) (by simp <;> omega)⟩, ⟨C _ _ _ D0.out (by show w.heap.size + 1 + 1 < _; omega) (by simp <;> omega), F _ _ D1.out (by show w.heap.size + 1 + 1 < _; omega)⟩, ⟨EQ.out _, F _ _ E1.out (by show gb < _; omega)⟩, ?_⟩
          rw [PK.out]
          have h := O2.out
          rw [show (P k ++ [x]).length = (P k).length + 1 by simp] at h
          exact h.kept (by simp [World.setCell]) fun b hb h => Below.heap_setCell _ _ _ _ (by have h2 : (b < w.heap.size ∨ gb + 1 ≤ b) ∨ gb + 1 ≤ b := h; show b ≠ gb; omega)
        case measure => simp [intOf] <;> omega
      · obtain rfl : k = n + 1 := by omega
        have OE : Hid (∀ z, OwnJ (fun b => True) LPkt w.heap.size (wr.setCell ⟨w.heap.size + 1 + 1, 0, none⟩ z) (.slice a2 m2 c2) res) := Lib.hid (fun z => by
          have h := HO.out
          have hg := HG.out
          rw [PN.out] at h
          exact ((h.kept (by simp [World.setCell]) fun b hb h => Below.heap_setCell _ _ _ _ (by have h2 : (b < w.heap.size ∨ gb + 1 ≤ b) ∨ gb + 1 ≤ b := h; show b ≠ w.heap.size + 1 + 1; omega)).mono (by omega)).imp fun b hb => trivial)
        have kgt : ¬ ((n + 1 : Nat) : Int) ≤ (n : Int) := by omega
        go_wp2_with fail
        have E : ∀ x, (wr.setCell ⟨w.heap.size + 1 + 1, 0, none⟩ x).cell? ⟨w.heap.size + 1 + 1, 0, none⟩ = some x := fun x => World.cell?_setCell_same _ _ _ D0.out
        exact bodyPost_ret (v := .tuple #[.agg #[.slice a2 m2 c2], .int .i64 0]) (by simp [results, Try.results10, go_sem, E]) rfl ⟨_, rfl, OE.out _, HB.out.setCell (by simp <;> omega) _⟩
set_option maxRecDepth 100000 in
set_option maxHeartbeats 4000000 in
/-- Send, where there is none -/
theorem rsendFull {v pv : Value} {xs : List PPkt} {p : PPkt} {w : World} (hv : IsNet w v xs) (hpv : IsPkt w pv p) (hn : 63 < xs.length) : Calls Try.prog 10 #[v, pv] w (MadeNE (fun _ _ => True) w [] 6) := by
  obtain ⟨v, rfl, hv⟩ := hv
  obtain ⟨pv, rfl, hp⟩ := hpv
  obtain ⟨a, cap, rfl, g1, g2, -, h⟩ := hv.parts
  obtain ⟨pa, pn, pc, rfl⟩ : ∃ a n c, pv = .slice a n c := by obtain ⟨a, c, h, -⟩ := hp.parts; exact ⟨a, _, c, h⟩
  clear h hv hp
  generalize xs.length = n at *
  have T3 := Lib.hid (send_boxes w a n cap p pa pn pc)
  go_enter Try.func10, Try.ntmps10
  go_upto_region 1 with fail
  generalize (((w.alloc (.cells #[.slice a n cap] 24)).alloc (.cells #[.int .i64 p.frm, .int .i64 p.to, .slice pa pn pc] 27)).alloc (.cells #[.slice none 0 0] 24)) = w1 at *
  obtain ⟨G, c0, -, ⟨d0, d1⟩, hz⟩ := T3.out
  have hgt63 : (63 : Int) < (n : Int) := by omega
  have GH := Lib.hid G
  have D0 := Lib.hid d0
  clear G hz T3
  go_wp2_with fail
  have E : ∀ x, (w1.setCell ⟨w.heap.size + 1 + 1, 0, none⟩ x).cell? ⟨w.heap.size + 1 + 1, 0, none⟩ = some x := fun x => World.cell?_setCell_same _ _ _ D0.out
  exact bodyPost_ret (v := .tuple #[.agg #[.slice none 0 0], .int .i64 6]) (by simp [results, Try.results10, go_sem, E]) rfl ⟨_, rfl, OwnJ.nil _ _ _, GH.out.setCell (by simp; omega) _⟩
end Go.Proofs.Ytgllaoanpemjlaa
