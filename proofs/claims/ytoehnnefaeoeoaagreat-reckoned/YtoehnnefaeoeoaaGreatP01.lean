import Derived.Test.YtoehnnefaeoeoaaGreatP00
import Derived.Conc.WgGenW
namespace Go.Proofs.YtoehnnefaeoeoaaGreat
theorem BB{p:Prop}(h:p:=by kernel_rfl):p:=h
theorem BD{p:Prop}(h:p:=by go_simp):p:=h
theorem Bc{p:Prop}(h:p:=by k_ne):p:=h
theorem Fh{p:Prop}(h:p:=by obtain⟨D,P,M⟩:=af.all d;go_simp):p:=h
theorem EB{p:Prop}(h:p:=by walk_nrm):p:=h
theorem FQ{p:Prop}(h:p:=by u_nil):p:=h
end Go.Proofs.YtoehnnefaeoeoaaGreat
