import Derived.Test.YtiobmhfpnhjmcaaEMEq
namespace Go.Proofs.Ytiobmhfpnhjmcaa
open Go.RowKit
theorem frozen_below {w w' : World} {b o : Nat} (hb : Below w.heap.size w w') (hl : b < w.heap.size) (h : w.frozen? ⟨b, o, none⟩ = false) : w'.frozen? ⟨b, o, none⟩ = false := by
  rw [hb.frozen (p := ⟨b, o, none⟩) hl]; exact h
end Go.Proofs.Ytiobmhfpnhjmcaa
