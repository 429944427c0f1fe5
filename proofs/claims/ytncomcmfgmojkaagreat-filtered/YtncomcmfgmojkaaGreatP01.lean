import Derived.Test.YtncomcmfgmojkaaGreatP00
import Derived.Conc.WgGenW
set_option linter.all false
namespace Go.Proofs.YtncomcmfgmojkaaGreat
def BA{p:Prop}(h:p:=by kernel_rfl):p:=h
def BJ{p:Prop}(h:p:=by k_ne):p:=h
def Be{p:Prop}(h:p:=by go_simp):p:=h
def Bf{p:Prop}(h:p:=by cases o;simp only at a;subst a;go_simp):p:=h
def Ci{p:Prop}(h:p:=by obtain⟨B,O,M⟩:=ag.all d;go_simp):p:=h
def D5{p:Prop}(h:p:=by walk_nrm):p:=h
def E4{p:Prop}(h:p:=by u_nil):p:=h
def Hi{p:Prop}(h:p:=by obtain⟨P,O,N⟩:=I.all;go_simp):p:=h
end Go.Proofs.YtncomcmfgmojkaaGreat
