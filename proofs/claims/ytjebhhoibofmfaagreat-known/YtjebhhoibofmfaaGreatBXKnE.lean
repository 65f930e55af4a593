import Derived.Test.YtjebhhoibofmfaaGreatBXKnD
namespace Go.Proofs.YtjebhhoibofmfaaGreat
open Go.RowKit
theorem known_any(c:Int)(w:World)(h1:-9223372036854775808<=c) :
 Calls Tryz.prog 5 #[.int .i64 c] w fun e w'=>e=.returned (.bool true)/\Below w.heap.size w w':=by
 obtain⟨r,hr,e⟩:=mod_nat (if c < 0 then -(c+1)else c) 3 (by omega)
 have hp:∀ w,Calls Tryz.prog 13 #[.int .i64 c,.int .i64 3] w fun e w'=>e=.returned (.int .i64 r)/\w'=w:=by
  intro w
  have hz:((3:Int) == 0)=false:=by decide
  by_cases h:c < 0
  ·rw[if_pos h]at e
   go_enter Tryz.func13,Tryz.ntmps13
   go_wp2_with fail
   go_ret
   exact⟨ret_int (by rw[<-e,<-Int.neg_tmod,Int.tmod_eq_emod_of_nonneg (by omega)]),rfl⟩
  ·rw[if_neg h]at e
   go_enter Tryz.func13,Tryz.ntmps13
   go_wp2_with fail
   go_ret
   exact⟨rfl,rfl⟩
 have:r=0\/r=1\/r=2:=by omega
 rcases this with rfl | rfl | rfl
 ·exact known_zero c w hp
 ·exact known_mid c w hp
 ·exact known_last c w hp
end Go.Proofs.YtjebhhoibofmfaaGreat
