/- What the document's own functions of layer 4 leave: Frame. -/
import Derived.Test.YtehlbddcgnclaaaDoorScan
import Derived.Test.YtehlbddcgnclaaaDoorCopy
import Derived.Test.YtehlbddcgnclaaaDoorRef
namespace Go.Proofs.YtehlbddcgnclaaaDoor
open Go.RowKit Plain
set_option linter.unusedVariables false

theorem four_le {y : Bytes} {m : Nat} (h : y.length = 4) (hm : m ≤ 6000) : ([] : Bytes).length + y.length ≤ 1073741824 ∧ y.length + m ≤ 1073741824 := by rw [h]; simp; omega
theorem cells_len (lp : Nat) (h : lp ≤ 5992) : (#[Value.int .u8 ((lp : Int) % 256), .int .u8 ((lp : Int) / 256 % 256), .int .u8 ((lp : Int) / 65536 % 256), .int .u8 ((lp : Int) / 16777216)] : Array Value).toList = (le4 lp).map bv := by
  unfold le4
  simp only [List.map_cons, List.map_nil]
  rw [← bv_eq (n := (lp : Int) % 256) (by rw [by8_toNat _ (by omega)]; omega), ← bv_eq (n := (lp : Int) / 256 % 256) (by rw [by8_toNat _ (by omega)]; omega),
    ← bv_eq (n := (lp : Int) / 65536 % 256) (by rw [by8_toNat _ (by omega)]; omega), ← bv_eq (n := (lp : Int) / 16777216) (by rw [by8_toNat _ (by omega)]; omega)]
theorem cells_sum (z : Nat) (h : z < 4294967296) : (#[Value.int .u8 ((z : Int) % 256), .int .u8 ((z : Int) / 256 % 256), .int .u8 ((z : Int) / 65536 % 256), .int .u8 ((z : Int) / 16777216)] : Array Value).toList = (le4 z).map bv := by
  unfold le4
  simp only [List.map_cons, List.map_nil]
  rw [← bv_eq (n := (z : Int) % 256) (by rw [by8_toNat _ (by omega)]; omega), ← bv_eq (n := (z : Int) / 256 % 256) (by rw [by8_toNat _ (by omega)]; omega),
    ← bv_eq (n := (z : Int) / 65536 % 256) (by rw [by8_toNat _ (by omega)]; omega), ← bv_eq (n := (z : Int) / 16777216) (by rw [by8_toNat _ (by omega)]; omega)]

set_option maxRecDepth 100000 in
set_option maxHeartbeats 2000000 in
theorem refFrame_any {v : Value} {p : Bytes} {w : World} (hv : Seq w v p) (hlen : p.length ≤ 5992) :
    Calls Tryd.prog 11 #[v] w (Made w (frm p)) := by
  obtain ⟨a, cap, rfl, g1, g2, g0, hs⟩ := hv.parts
  have SV := Lib.hid hs
  have hpi : (p.length : Int) ≤ 5992 := by omega
  have S4 := Lib.hid (fun u => seq_lit u (le4 p.length) _ (cells_len p.length hlen) (by rw [le4_len]; omega))
  have SZ := Lib.hid (fun u => seq_lit u (le4 (psum p).toNat) _ (cells_sum (psum p).toNat (psum p).isLt) (by rw [le4_len]; omega))
  have E : Hid (le4 p.length ++ (le4 (psum p).toNat ++ p) = frm p) := Lib.hid rfl
  have EP : Hid (sum (le4 p.length ++ p) = psum p) := Lib.hid rfl
  have l4 : (le4 p.length).length = 4 := rfl
  have l4' : (le4 (psum p).toNat).length = 4 := rfl
  rw [l4] at S4
  rw [l4'] at SZ
  have L4 := Lib.hid l4
  have L4' := Lib.hid l4'
  have hz := (psum p).isLt
  clear hv hs g0 l4 l4'
  generalize psum p = z at *
  generalize frm p = ys at *
  generalize hlp : p.length = lp at *
  have HLP := Lib.hid hlp
  generalize le4 lp = y4 at *
  generalize le4 z.toNat = yz at *
  clear hlp
  have HLEN := Lib.hid hlen
  clear hlen
  go_enter Tryd.func11, Tryd.ntmps11
  go_wp2_with (at_builtin; refine wpList_append_seq rfl (.tmp 24) (.tmp 25) rfl (w.heap.size + 1) rfl (Owns.empty1 _ _ _ (Nat.le_refl _)) rfl ((S4.out w).below_alloc _) (four_le L4.out (Nat.zero_le _)).1 (one_le_alloc2 _ _ _) ?_)
  intro v1 w1 ho1 hg1 _
  have hbu := below_empty1 hg1
  have S41 := Lib.hid ((S4.out w).below' hbu (alloc_le _ _))
  have O1 := Lib.hid ho1
  have BU := Lib.hid hbu
  have hsz1 : w.heap.size + 1 ≤ w1.heap.size := by have := hbu.size; simpa using this
  have B1 := Lib.hid (below_first w _ hbu)
  clear ho1 hg1 hbu
  go_wp2_with (at_builtin; refine wpList_append_seq rfl (.tmp 26) (.tmp 27) rfl (w.heap.size + 1) rfl O1.out rfl (SV.out.below B1.out) (by rw [HLP.out]; exact (four_le L4.out (Nat.le_trans HLEN.out (by omega))).2) hsz1 ?_)
  intro v2 w2 ho2 hg2 _
  have hbu2 := BU.out.grown hg2 hsz1 (fun k hk => (O1.out.lt k hk).1)
  have S42 := Lib.hid ((S4.out w).below' hbu2 (alloc_le _ _))
  have BU2 := Lib.hid hbu2
  have B2 := Lib.hid (below_first w _ hbu2)
  have hsz2 : w.heap.size + 1 ≤ w2.heap.size := by have := hbu2.size; simpa using this
  have KS := Lib.hid (ref_seq ho2.seq (by rw [List.length_append, L4.out, HLP.out]; have := HLEN.out; omega))
  rw [EP.out] at KS
  clear ho2 hg2 hbu2 hsz1
  go_wp2_with fail
  refine KS.out.mono ?_
  rintro e w2' ⟨rfl, rfl⟩
  have hzz : (z.toNat : Int) ≤ 4294967295 := by omega
  clear hz
  go_wp2_with (at_builtin; refine wpList_append_seq rfl (.tmp 30) (.tmp 31) rfl (w.heap.size + 1) rfl ((Owns.empty _ _ hsz2)) rfl (S42.out.below_alloc _) (four_le L4.out (Nat.zero_le _)).1 (Nat.le_trans hsz2 (le_alloc _ _)) ?_)
  intro v3 w3 ho3 hg3 _
  have hsz2' : w.heap.size ≤ w2.heap.size := by omega
  have B3 := Lib.hid ((B2.out.alloc hsz2' _).grown hg3 (by simp; omega) (by intro k hk; simp [Value.ownBlock] at hk; omega))
  have O3 := Lib.hid (ho3.mono (by omega : w.heap.size ≤ w.heap.size + 1))
  have hsz3 := B3.out.size
  clear ho3 hg3 hsz2 hsz2'
  go_wp2_with (at_builtin; refine wpList_append_seq rfl (.tmp 32) (.tmp 44) rfl w.heap.size rfl (O3.out.alloc _) rfl (SZ.out w3) (by rw [L4.out, L4'.out]; omega) (Nat.le_trans hsz3 (le_alloc _ _)) ?_)
  intro v4 w4 ho4 hg4 _
  have B4 := Lib.hid ((B3.out.alloc hsz3 _).grown hg4 (Nat.le_trans hsz3 (le_alloc _ _)) (fun k hk => (O3.out.lt k hk).1))
  have O4 := Lib.hid ho4
  clear ho4 hg4 hsz3
  go_wp2_with (at_builtin; refine wpList_append_seq rfl (.tmp 46) (.tmp 47) rfl w.heap.size rfl O4.out rfl (SV.out.below B4.out) (by rw [List.length_append, L4.out, L4'.out, HLP.out]; have := HLEN.out; omega) B4.out.size ?_)
  intro v5 w5 ho5 hg5 _
  have B5 := Lib.hid (B4.out.grown hg5 B4.out.size (fun k hk => (O4.out.lt k hk).1))
  rw [E.out] at ho5
  have O5 := Lib.hid ho5
  clear ho5 hg5
  go_wp2_with fail
  go_ret
  exact ⟨_, rfl, O5.out, B5.out⟩
end Go.Proofs.YtehlbddcgnclaaaDoor
