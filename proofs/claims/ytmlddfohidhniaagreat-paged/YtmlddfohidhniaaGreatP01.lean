import Derived.Test.YtmlddfohidhniaaGreatP00
import Derived.Conc.WgGenW
set_option linter.all false
namespace Go.Proofs.YtmlddfohidhniaaGreat
def Ah{p:Prop}(h:p:=by kernel_rfl):p:=h
def Am{p:Prop}(h:p:=by k_ne):p:=h
def Ap{p:Prop}(h:p:=by go_simp):p:=h
def BB{p:Prop}(h:p:=by cases o;simp only at a;subst a;go_simp):p:=h
def B7{p:Prop}(h:p:=by obtain⟨A,M,J⟩:=ai.all d;go_simp):p:=h
def Cs{p:Prop}(h:p:=by walk_nrm):p:=h
def ED{p:Prop}(h:p:=by u_nil):p:=h
def FV{p:Prop}(h:p:=by obtain⟨O,N,M⟩:=hb.all;go_simp):p:=h
