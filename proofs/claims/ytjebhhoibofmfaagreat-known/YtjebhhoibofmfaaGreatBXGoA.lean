import Derived.Test.YtjebhhoibofmfaaGreatBMEq
import Derived.ScopeJumps
import Derived.WalkMore
namespace Go.Proofs.YtjebhhoibofmfaaGreat
def jumpA(J:Nat->Act->World->Prop)(Q:Exit->Act->World->Prop):Exit->Act->World->Prop
 | .goto l,a,w=>J l a w
 | e,a,w=>Q e a w
theorem wp_scope_all{P:Program}{a:Act}{w:World}{Q:Exit->Act->World->Prop}{c:Code}(J:Nat->Nat->Act->World->Prop)
 (first:c.wp P (jumpA (fun l a w=>∃ n,J l n a w) Q) a w)
 (pass:∀ l n a w,J l n a w->∃ r,findLabel c l=some r/\r.wp P (jumpA (fun l' a' w'=>∃ n',n' < n/\J l' n' a' w') Q) a w):(Code.scope c).wp P Q a w:=by
 intro b k cs
 have key:∀ n l a w,J l n a w->∃ r,findLabel c l=some r/\∃ e a' w',Q e a' w'/\Arrives P (lone (b.at a (.code r :: .inScope c :: k)) cs w) b k cs e a' w':=by
  intro n
  induction n using Nat.strongRecOn with
  | _ n ih=>
    intro l a w hJ
    obtain⟨r,hr,hwp⟩:=pass l n a w hJ
    refine⟨r,hr,?_⟩
    obtain⟨e,a₁,w₁,hq,harr⟩:=hwp b (.inScope c :: k) cs
    cases e with
    | normal=>exact⟨.normal,a₁,w₁,hq,Steps.trans harr (.one step_inScope)⟩
    | exit id=>exact⟨.exit id,a₁,w₁,hq,fun k' hk=>harr k' (by simp[exitTo,hk])⟩
    | goto l'=>
      obtain⟨n',hlt,hJ'⟩:=hq
      obtain⟨r',hr',e₂,a₂,w₂,hq₂,harr₂⟩:=ih n' hlt l' a₁ w₁ hJ'
      have hg:gotoIn l' (.inScope c :: k)=some (.code r' :: .inScope c :: k):=by simp[gotoIn,hr']
      exact⟨e₂,a₂,w₂,hq₂,.of_steps (harr _ hg) harr₂⟩
    | ret=>exact⟨_,a₁,w₁,hq,harr⟩
    | panic ch=>exact⟨_,a₁,w₁,hq,harr⟩
    | outgrown=>exact⟨_,a₁,w₁,hq,harr⟩
 obtain⟨e,a₁,w₁,hq,harr⟩:=first b (.inScope c :: k) cs
 cases e with
 | normal=>exact⟨.normal,a₁,w₁,hq,.head step_scope (Steps.trans harr (.one step_inScope))⟩
 | exit id=>exact⟨.exit id,a₁,w₁,hq,fun k' hk=>.head step_scope (harr k' (by simp[exitTo,hk]))⟩
 | goto l'=>
   obtain⟨n',hJ'⟩:=hq
   obtain⟨r',hr',e₂,a₂,w₂,hq₂,harr₂⟩:=key n' l' a₁ w₁ hJ'
   have hg:gotoIn l' (.inScope c :: k)=some (.code r' :: .inScope c :: k):=by simp[gotoIn,hr']
   exact⟨e₂,a₂,w₂,hq₂,.of_steps (.head step_scope (harr _ hg)) harr₂⟩
 | ret=>exact⟨_,a₁,w₁,hq,.of_steps (.one step_scope) harr⟩
 | panic ch=>exact⟨_,a₁,w₁,hq,.of_steps (.one step_scope) harr⟩
 | outgrown=>exact⟨_,a₁,w₁,hq,.of_steps (.one step_scope) harr⟩
theorem jumpA_mono{J J':Nat->Act->World->Prop}{Q:Exit->Act->World->Prop}(h:∀ l a w,J l a w->J' l a w):∀ e a w,jumpA J Q e a w->jumpA J' Q e a w:=by
 intro e a w hq
 cases e with
 | goto l=>exact h l a w hq
 | _=>exact hq
theorem wp_scope_into{P:Program}{a:Act}{w:World}{Q:Exit->Act->World->Prop}{c:Code}(J:Nat->Nat->Act->World->Prop)
 (pass:∀ l n a w,J l n a w->∃ r,findLabel c l=some (Code.skip.seq r)/\r.wp P (jumpA (fun l' a' w'=>∃ n',n' < n/\J l' n' a' w') Q) a w)
 (first:(∀ l n a w,J l n a w->∃ r,findLabel c l=some (Code.skip.seq r)/\r.wp P (jumpA (fun l' a' w'=>∃ n',J l' n' a' w') Q) a w)->c.wp P (jumpA (fun l a w=>∃ n,J l n a w) Q) a w):(Code.scope c).wp P Q a w:=by
 refine wp_scope_all J (first (fun l n a w h=>?_)) (fun l n a w h=>?_)
 ·obtain⟨r,hr,hwp⟩:=pass l n a w h
  exact⟨r,hr,wp_mono hwp (jumpA_mono (fun l a w ⟨n',_,h'⟩=>⟨n',h'⟩))⟩
 ·obtain⟨r,hr,hwp⟩:=pass l n a w h
  exact⟨_,hr,wp_seq (wp_skip hwp)⟩
end Go.Proofs.YtjebhhoibofmfaaGreat
