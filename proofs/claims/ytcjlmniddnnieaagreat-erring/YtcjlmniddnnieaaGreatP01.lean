import Derived.Test.YtcjlmniddnnieaaGreatP00
import Derived.Conc.WgGenW
set_option linter.all false
namespace Go.Proofs.YtcjlmniddnnieaaGreat
variable{p:Prop}
def AS(h:p:=by kernel_rfl):p:=h
def Ag(h:p:=by k_ne):p:=h
def A0(h:p:=by go_simp):p:=h
def A1(h:p:=by cases o;simp only at a;subst a;go_simp):p:=h
def Bm(h:p:=by obtain⟨B,O,J⟩:=ag.all d;go_simp):p:=h
def CP(h:p:=by u_nil):p:=h
def Ct(h:p:=by walk_nrm):p:=h
def FU(h:p:=by simp[kQ];go_simp):p:=h
def Hj(h:p:=by subst g;go_simp):p:=h
