import Derived.Test.YtebcnmadaaimoaaGreatP00
import Derived.Conc.WgGenW
set_option linter.all false
namespace Go.Proofs.YtebcnmadaaimoaaGreat
def Ao{p:Prop}(h:p:=by kernel_rfl):p:=h
def Ap{p:Prop}(h:p:=by k_ne):p:=h
def Ar{p:Prop}(h:p:=by go_simp):p:=h
def A7{p:Prop}(h:p:=by cases o;simp only at a;subst a;go_simp):p:=h
def B0{p:Prop}(h:p:=by obtain⟨B,O,M⟩:=ah.all d;go_simp):p:=h
def CK{p:Prop}(h:p:=by walk_nrm):p:=h
def CM{p:Prop}(h:p:=by u_nil):p:=h
def Fq{p:Prop}(h:p:=by obtain⟨N,M,L⟩:=F.all;go_simp):p:=h
