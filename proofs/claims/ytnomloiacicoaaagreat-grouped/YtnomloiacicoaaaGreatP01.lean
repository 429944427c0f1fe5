import Derived.Test.YtnomloiacicoaaaGreatP00
import Derived.Conc.WgGenW
set_option linter.all false
namespace Go.Proofs.YtnomloiacicoaaaGreat
variable{p:Prop}
def AB(h:p:=by kernel_rfl):p:=h
def Ak(h:p:=by go_simp):p:=h
def An(h:p:=by k_ne):p:=h
def A9(h:p:=by cases o;simp only at a;subst a;go_simp):p:=h
def B1(h:p:=by obtain⟨D,O,M⟩:=ag.all d;go_simp):p:=h
def Cv(h:p:=by walk_nrm):p:=h
def DN(h:p:=by u_nil):p:=h
def E4(h:p:=by obtain⟨F,B,A⟩:=d.1.all;go_simp):p:=h
def Gf(h:p:=by obtain⟨w,P,gB⟩:=m.1.all;go_simp):p:=h
