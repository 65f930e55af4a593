import Derived.Test.YtjebhhoibofmfaaXCkF
import Derived.Test.YtjebhhoibofmfaaXCkG
import Derived.Test.YtjebhhoibofmfaaXCkH
import Derived.Test.YtjebhhoibofmfaaXCkI
import Derived.Test.YtjebhhoibofmfaaXCkJ
namespace Go.Proofs.Ytjebhhoibofmfaa
open Go.RowKit

/-- The clauses of the reference's list are those of the sets. -/
def Tied (qs : List Cl) (ss : List (Nat × Nat)) : Prop := qs.length = ss.length ∧ ∀ i, i < ss.length → (qs.getD i cl0).ls = inOrd (ss.getD i (0, 0)).1 (ss.getD i (0, 0)).2

theorem one_any (ta sa aa : Option Addr) (tc sc ac : Nat) (ts : List Tm) (cs qs : List Cl) (ss : List (Nat × Nat)) (s : St) (w : World) (ht : TermsAt w ta ts) (hcs : ClausesAt w sa cs) (hq : ClausesAt w aa qs) (hts : termsB ts = true) (hcl : clausesB ts.length cs = true) (hT : Tied qs ss) :
    Calls Try.prog 81 #[.agg #[.slice ta ts.length tc, .slice sa cs.length sc], .agg #[.int .i64 s.r, .int .i64 s.a, .int .i64 s.b, .int .i64 s.c, .int .i64 s.d], .slice aa qs.length ac] w fun e w' => OneEnds w w' e (nextB ts cs ss s) (nextS ts cs ss s) := by
  by_cases n0 : s.r = 0
  · exact one_given_any ta sa aa tc sc ac ts cs qs ss s w ht hcs hq hts hcl hT.1 hT.2 n0
  by_cases n1 : s.r = 1
  · exact one_refl_any ta sa aa tc sc ac ts cs qs ss s w ht hcs hq hts hcl hT.1 hT.2 n1
  by_cases n2 : s.r = 2
  · exact one_trans_any ta sa aa tc sc ac ts cs qs ss s w ht hcs hq hts hcl hT.1 hT.2 n2
  by_cases n3 : s.r = 3
  · exact one_cong_any ta sa aa tc sc ac ts cs qs ss s w ht hcs hq hts hcl hT.1 hT.2 n3
  by_cases n4 : s.r = 4
  · exact one_cut_any ta sa aa tc sc ac ts cs qs ss s w ht hcs hq hts hcl hT.1 hT.2 n4
  exact one_none_any ta sa aa tc sc ac ts cs qs ss s w ht hcs hq hts hcl hT.1 hT.2 n0 n1 n2 n3 n4
end Go.Proofs.Ytjebhhoibofmfaa
