/- What the program's four steps by a table answer: the document's step four times; wherever the table lies as the program's text lays it. -/
import Derived.Test.YtehlbddcgnclaaaDoorWords
import Derived.Test.YtehlbddcgnclaaaDoorCrc
import Derived.WalkKit
import Derived.Outline
import Derived.Lib.Hide
import Derived.Laws.BitsAllLaws
namespace Go.Proofs.YtehlbddcgnclaaaDoor
open Go.RowKit Plain
set_option linter.unusedVariables false

/-- the table lies there -/
def HasTab (w : World) : Prop := ∀ i, i < 16 → w.cell? ⟨0, i, none⟩ = some (.int .u32 (tab.getD i 0))

theorem and15 (r : BitVec 32) : bits .and .u32 (r.toNat : Int) 15 = ((r.toNat % 16 : Nat) : Int) := by
  have h := u32_and_nat r.toNat 15 r.isLt (by omega)
  rw [nat_mask4] at h
  exact h
theorem four_eq (r : BitVec 32) : bits .xor .u32 ((r.toNat : Int) / 16) (tab.getD (r.toNat % 16) 0) = ((s4 r).toNat : Int) := by
  have ht := tab_bd (r.toNat % 16) (Nat.mod_lt _ (by omega))
  rw [s4_tab]
  generalize tab.getD (r.toNat % 16) 0 = t at *
  have hr := r.isLt
  obtain ⟨n, rfl⟩ := Int.eq_ofNat_of_zero_le ht.1
  rw [show (r.toNat : Int) / 16 = ((r.toNat / 16 : Nat) : Int) by omega, u32_xor_nat _ _ (by omega) (by omega), Int.toNat_natCast]

theorem four_any (r : BitVec 32) (w : World) (hT : HasTab w) :
    Calls Tryd.prog 41 #[.int .u32 r.toNat] w fun e w' => e = .returned (.int .u32 (s4 r).toNat) ∧ w = w' := by
  have hr := r.isLt
  have E := Lib.hid (four_eq r)
  have e := and15 r
  have hk : r.toNat % 16 < 16 := Nat.mod_lt _ (by omega)
  have hc := hT _ hk
  generalize r.toNat % 16 = k at *
  generalize tab.getD k 0 = t at *
  generalize (s4 r).toNat = z at *
  clear hT
  have hk0 : (0 : Int) ≤ (k : Int) := by omega
  have hk1 : (k : Int) < 16 := by omega
  go_enter Tryd.func41, Tryd.ntmps41
  go_wp2
  go_ret
  exact ⟨ret_int E.out, rfl⟩
end Go.Proofs.YtehlbddcgnclaaaDoor
