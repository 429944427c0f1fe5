import Derived.Test.YtnkpmooengcinaaGreatP00
import Derived.Conc.WgGenW
set_option linter.all false
namespace Go.Proofs.YtnkpmooengcinaaGreat
def AU{p:Prop}(h:p:=by kernel_rfl):p:=h
def Ad{p:Prop}(h:p:=by k_ne):p:=h
def Ah{p:Prop}(h:p:=by go_simp):p:=h
def Aq{p:Prop}(h:p:=by cases o;simp only at a;subst a;go_simp):p:=h
def Be{p:Prop}(h:p:=by u_nil):p:=h
def B3{p:Prop}(h:p:=by walk_nrm):p:=h
def Dr{p:Prop}(h:p:=by obtain⟨F,E,A⟩:=d.1.all;go_simp):p:=h
def EY{p:Prop}(h:p:=by simp[kB];go_simp):p:=h
def FP{p:Prop}(h:p:=by obtain⟨r,L,hX⟩:=f.1.all;go_simp):p:=h
