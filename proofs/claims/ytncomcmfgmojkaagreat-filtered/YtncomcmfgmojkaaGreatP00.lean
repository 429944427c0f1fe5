set_option linter.all false
namespace Go.Proofs.YtncomcmfgmojkaaGreat
theorem PA:True:=trivial
theorem Y{α:Sort _}{a:α}:a=a:=rfl
def AA{p:Prop}(h:p:=by grind):p:=h
def AV{p:Prop}(h:p:=by decide+kernel):p:=h
def Ae{p:Prop}(h:p:=by decide):p:=h
def As{p:Prop}(h:p:=by omega):p:=h
def A_{p:Prop}(h:p:=by simp):p:=h
def Bg{p:Prop}(h:p:=by simp;omega):p:=h
def Bo{p:Prop}(h:p:=by rfl):p:=h
def Br{p:Prop}(h:p:=by simp_all):p:=h
def Bs{p:Prop}(h:p:=by simp[listed,go_sem];rfl):p:=h
def B0{p:Prop}(h:p:=by cases h.1):p:=h
def B1{p:Prop}(h:p:=by simp<;>omega):p:=h
def B4{p:Prop}(h:p:=by simp[Act.eval]):p:=h
def B6{p:Prop}(h:p:=by exact fj ⟨trivial,trivial,trivial,trivial,trivial,trivial,trivial,trivial,trivial,trivial,trivial,trivial,trivial,trivial,trivial,trivial⟩):p:=h
def Cl{p:Prop}(h:p:=by simp[listed,go_sem,q];rfl):p:=h
def Co{p:Prop}(h:p:=by assumption):p:=h
def DO{p:Prop}(h:p:=by unfold cD;omega):p:=h
def DT{p:Prop}(h:p:=by simp[Fence.wide]at h):p:=h
def DX{p:Prop}(h:p:=by simp only[List.all_cons,Bool.and_eq_true]at hk⊢;exact hk):p:=h
def Dq{p:Prop}(h:p:=by have:=u.out;grind):p:=h
def Dv{p:Prop}(h:p:=by cases e):p:=h
def Dw{p:Prop}(h:p:=by simp[results,results187,go_sem,f]):p:=h
def D1{p:Prop}(h:p:=by simp[results,results183,go_sem,f]):p:=h
def EC{p:Prop}(h:p:=by exact fj ⟨trivial,trivial,trivial,trivial,trivial,trivial,trivial,trivial,trivial,trivial,trivial,trivial,trivial,trivial,trivial⟩):p:=h
def ED{p:Prop}(h:p:=by simp[ic]):p:=h
def EI{p:Prop}(h:p:=by simp_all[aG.gu]):p:=h
def EM{p:Prop}(h:p:=by intro u y;simp at y;subst y;rfl):p:=h
def ET{p:Prop}(h:p:=by rcases c with h|h|h|h|h|h|h|h<;>first|omega|grind[operands]):p:=h
def EU{p:Prop}(h:p:=by grind[Conc.mem_ofEvents]):p:=h
def Et{p:Prop}(h:p:=by exact fj ⟨trivial,trivial,trivial,trivial,trivial,trivial,trivial,trivial,trivial,trivial,trivial,trivial,trivial⟩):p:=h
def Ex{p:Prop}(h:p:=by simp[World.cell?,a]):p:=h
def FF{p:Prop}(h:p:=by subst e;exact .ite (λ_=>.pure rfl) (λ_=>.pure rfl)):p:=h
def FL{p:Prop}(h:p:=by simp[go_sem,ev]):p:=h
def FM{p:Prop}(h:p:=by first|(intro h;cases h;done)|(intro _ _ h;cases h;done)):p:=h
def FO{p:Prop}(h:p:=by exact fj ⟨trivial,trivial,trivial,trivial,trivial,trivial,trivial,trivial,trivial,trivial,trivial⟩):p:=h
def Fg{p:Prop}(h:p:=by simp[listed,go_sem,binOp,Op.equal];rw[show Op.maxDepth=9999+1 from rfl,Op.equalIn];simp[go_sem];rfl):p:=h
def Fh{p:Prop}(h:p:=by have:=P.out;omega):p:=h
def Fi{p:Prop}(h:p:=by grind[touchAt_of]):p:=h
def Fq{p:Prop}(h:p:=by simpa using h):p:=h
def Fz{p:Prop}(h:p:=by have:=f.out.size;simp;omega):p:=h
def F1{p:Prop}(h:p:=by cases d<;>first|exact hq|(cases c<;>first|exact hq|exact PX a _ _ b _ _ _ _ |grind[PY,PV])):p:=h
def F9{p:Prop}(h:p:=by simp[iT,jx,mA,pO,m2]):p:=h
def GB{p:Prop}(h:p:=by rw[Array.size_setIfInBounds];exact h.len):p:=h
def GC{p:Prop}(h:p:=by have:=c.out;omega):p:=h
def GY{p:Prop}(h:p:=by have:=O.out;omega):p:=h
def Gc{p:Prop}(h:p:=by rw[IntKind.wrap_i64];omega):p:=h
def Gd{p:Prop}(h:p:=by simp[aZ,stepG,stepG.exec,Frame.at,base]):p:=h
def Gh{p:Prop}(h:p:=by grind[put_defers]):p:=h
def Gm{p:Prop}(h:p:=by have:=c.out.size;omega):p:=h
def G9{p:Prop}(h:p:=by rw[deaf_old (Nat.le_refl _)];exact hd):p:=h
def HH{p:Prop}(h:p:=by rw[F.rules.1];simp):p:=h
def HW{p:Prop}(h:p:=by grind[Frame.oper?]):p:=h
def HX{p:Prop}(h:p:=by simp[results,results68,go_sem,l]):p:=h
def Ha{p:Prop}(h:p:=by simp[Value.oneCell']):p:=h
def Hh{p:Prop}(h:p:=by rw[h.len];grind):p:=h
def Hj{p:Prop}(h:p:=by grind[Value.ownBlock]):p:=h
def Hn{p:Prop}(h:p:=by cases a<;>first|rfl|exact c.elim):p:=h
def Hq{p:Prop}(h:p:=by simpa using hi):p:=h
def Hx{p:Prop}(h:p:=by grind[maxLen]):p:=h
def Hy{p:Prop}(h:p:=by unfold pB;rw[List.all_eq_true];intro o _;cases o.dst<;>rfl):p:=h
def Hz{p:Prop}(h:p:=by simp[exitTo]):p:=h
def H2{p:Prop}(h:p:=by have:=d.out;omega):p:=h
def H3{p:Prop}(h:p:=by simp[zv,deafBehind]):p:=h
def H4{p:Prop}(h:p:=by rw[put_defers];exact h.defers):p:=h
def H5{p:Prop}(h:p:=by rw[put_defers];exact H.defers):p:=h
def H7{p:Prop}(h:p:=by rw[gu];exact h.size):p:=h
def H8{p:Prop}(h:p:=by grind[bj.word]):p:=h
def H_{p:Prop}(h:p:=by first|exact trivial|exact rfl):p:=h
def IH{p:Prop}(h:p:=by obtain⟨be,s⟩:=MU n.out hg;exact FX p.out s (by decide)):p:=h
def IM{p:Prop}(h:p:=by simp[touchAt,Trace.act?]at h):p:=h
def IX{p:Prop}(h:p:=by simp[tm];decide):p:=h
def IZ{p:Prop}(h:p:=by simp only[List.all_cons,Bool.and_eq_true];exact hk):p:=h
def Is{p:Prop}(h:p:=by rw[gu,gu];exact hk.size):p:=h
def Iu{p:Prop}(h:p:=by rw[IntKind.wrap_i32];omega):p:=h
def Iv{p:Prop}(h:p:=by grind[Trace.g?]):p:=h
def Iw{p:Prop}(h:p:=by simp[ca]):p:=h
def I2{p:Prop}(h:p:=by subst e;exact .pure ((l.cells.zeroCells _).rel j)):p:=h
def JC{p:Prop}(h:p:=by have:=q.out.size;omega):p:=h
def JG{p:Prop}(h:p:=by grind[sj]):p:=h
def JH{p:Prop}(h:p:=by show n0<=c.heap.size;rw[e.size];exact H.size):p:=h
def JL{p:Prop}(h:p:=by simp[Frame.finish,n]):p:=h
def Jf{p:Prop}(h:p:=by rw[gu,hk.size];grind):p:=h
def Jg{p:Prop}(h:p:=by rw[Deaf_own,hd,q,n];rfl):p:=h
def Jh{p:Prop}(h:p:=by grind[Below.refl,Below.alloc,Below.setCell]):p:=h
def Ji{p:Prop}(h:p:=by simp[ga]):p:=h
def Jj{p:Prop}(h:p:=by grind[Frame.finish]):p:=h
def Jq{p:Prop}(h:p:=by cases o;simp only at a;subst a;simp[go_sem,c]):p:=h
def Jw{p:Prop}(h:p:=by simp at a;rcases a with rfl|rfl<;>assumption):p:=h
def J1{n:Nat}:n<=n:=Nat.le_refl n
def KJ{p:Prop}(h:p:=by exact bf rfl rfl):p:=h
def KS{p:Prop}(h:p:=by exact λ_=>rfl):p:=h
def KT{p:Prop}(h:p:=by exact cH rfl rfl (e_ _) Ae):p:=h
def KU{p:Prop}(h:p:=by exact λ_ _ _ h=>B0):p:=h
def KX{n:Nat}:n<n+1:=Nat.lt_succ_self n
def KY{p:Prop}(h:p:=by exact dv rfl rfl):p:=h
def Ke{p:Prop}(h:p:=by exact λw k=>⟨k,rfl⟩):p:=h
def Kf{p:Prop}(h:p:=by exact cH rfl rfl (mX _) Ae):p:=h
def Kg{α:Sort _}{a:α}{q:Prop}:a=a\/q:=.inl rfl
def Kj{p:Prop}(h:p:=by exact λ_ _ _ h=>h):p:=h
def Kk{p:Prop}(h:p:=by exact my rfl rfl Ae):p:=h
def Kl{p:Prop}(h:p:=by exact ar rfl (bf rfl rfl)<|ar rfl (uX rfl rfl (λ_=>rfl) DO Ae)<|ar rfl (dv rfl rfl)<|rfl):p:=h
def Ky{p:Prop}(h:p:=by exact kB rfl rfl rfl):p:=h
def K1{α:Sort _}{a:α}{q:Prop}:q\/a=a:=.inr rfl
def K2{p:Prop}(h:p:=by exact ar rfl (DI rfl rfl (λ_=>rfl) Ae)<|ar rfl (dv rfl rfl)<|rfl):p:=h
def K_{p:Prop}(h:p:=by exact λ_ _ _ _ _ _ h=>h):p:=h
def LM{p:Prop}(h:p:=by exact ia rfl rfl Ae uY):p:=h
def LW{p:Prop}(h:p:=by exact ar rfl (bf rfl rfl)<|ar rfl (rr rfl rfl)<|ar rfl (bf rfl rfl)<|hP rfl (bf rfl rfl)<|hP rfl (rr rfl rfl)<|ar rfl (kB rfl rfl rfl)<|rfl):p:=h
def Ld{p:Prop}(h:p:=by exact DI rfl rfl (λ_=>rfl) Ae):p:=h
def Lf{p:Prop}(h:p:=by exact cH rfl rfl (DJ _) Ae):p:=h
def Lh{p:Prop}(h:p:=by exact λe=>e.elim):p:=h
def Lj{p:Prop}(h:p:=by exact λa w' hn _=>GG rfl a w' hn):p:=h
def Ll{p:Prop}(h:p:=by exact G5 rfl (λ_=>rfl) rfl):p:=h
def Lm{p:Prop}(h:p:=by exact mY rfl):p:=h
def Ln{p:Prop}(h:p:=by exact lR rfl):p:=h
def Lq{p:Prop}(h:p:=by exact ia rfl rfl Ae Ag):p:=h
def Lt{p:Prop}(h:p:=by exact ia rfl rfl Ae Af):p:=h
def Lv{p:Prop}(h:p:=by exact λh=>h):p:=h
def Lx{p:Prop}(h:p:=by exact DK rfl rfl rfl Ae):p:=h
def L3{p:Prop}(h:p:=by exact vg rfl rfl):p:=h
def L8{p:Prop}(h:p:=by exact uV rfl rfl):p:=h
def L9{p:Prop}(h:p:=by exact wJ rfl rfl):p:=h
def L_{p:Prop}(h:p:=by exact dM rfl rfl rfl (hk) Ae):p:=h
def MI{p:Prop}(h:p:=by exact uX rfl rfl (λ_=>rfl) DO Ae):p:=h
def MV{p:Prop}(h:p:=by exact λe=>e.app _):p:=h
def Mf{p:Prop}(h:p:=by exact rr rfl rfl):p:=h
def Mq{p:Prop}(h:p:=by exact cH rfl rfl (Jy _) Ae):p:=h
def Mr{p:Prop}(h:p:=by exact λx k hk=>(x k hk).app _):p:=h
def Mv{p:Prop}(h:p:=by exact λ_ _ _ _ _ a h=>a _ _ h):p:=h
def Mw{p:Prop}(h:p:=by exact KC rfl (λ_=>rfl)):p:=h
def M6{p:Prop}(h:p:=by exact KB rfl (λ_=>rfl)):p:=h
end Go.Proofs.YtncomcmfgmojkaaGreat
