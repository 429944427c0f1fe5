set_option linter.all false
namespace Go.Proofs.YtcjlmniddnnieaaGreat
variable{p:Prop}
theorem PA:True:=trivial
theorem Y{α:Sort _}{a:α}:a=a:=rfl
def AJ(h:p:=by grind):p:=h
def AM(h:p:=by decide+kernel):p:=h
def AP(h:p:=by omega):p:=h
def AQ(h:p:=by simp):p:=h
def AU(h:p:=by decide):p:=h
def An(h:p:=by simp;omega):p:=h
def A_(h:p:=by rfl):p:=h
def BJ(h:p:=by simp[listed,go_sem];rfl):p:=h
def BK(h:p:=by simp[listed,go_sem,binOp,Op.equal];rw[show Op.maxDepth=9999+1 from rfl,Op.equalIn];simp[go_sem];rfl):p:=h
def BR(h:p:=by simp_all):p:=h
def BZ(h:p:=by cases h.1):p:=h
def Bi(h:p:=by simp[Act.eval]):p:=h
def Bu(h:p:=by simp[Fence.wide]at h):p:=h
def Bw(h:p:=by have:=h.len;omega):p:=h
def Bz(h:p:=by exact fc ⟨trivial,trivial,trivial,trivial,trivial,trivial,trivial,trivial,trivial⟩):p:=h
def CB(h:p:=by simp[listed,go_sem,q];rfl):p:=h
def CE(h:p:=by simp[go_sem,binOp,Op.equal];rw[show Op.maxDepth=9999+1 from rfl,Op.equalIn];simp):p:=h
def CF(h:p:=by simp<;>omega):p:=h
def CG(h:p:=by unfold c9;omega):p:=h
def CN(h:p:=by assumption):p:=h
def CQ(h:p:=by simp only[List.all_cons,Bool.and_eq_true]at hk⊢;exact hk):p:=h
def CY(h:p:=by have:=s.out;grind):p:=h
def Cy(h:p:=by cases e):p:=h
def Cz(h:p:=by have:=c.out.size;omega):p:=h
def C2(h:p:=by simp[results,results185,go_sem,f]):p:=h
def C5(h:p:=by simp[results,results181,go_sem,f]):p:=h
def Dk(h:p:=by simpa using hi):p:=h
def Dl(h:p:=by simp[iL]):p:=h
def Dp(h:p:=by simp_all[aK.gY]):p:=h
def Dr(h:p:=by grind[Conc.mem_ofEvents]):p:=h
def Ds(h:p:=by simp[World.cell?,a]):p:=h
def EA(h:p:=by subst e;exact .ite (λ_=>.pure rfl) (λ_=>.pure rfl)):p:=h
def EF(h:p:=by simp[go_sem,ev]):p:=h
def EG(h:p:=by first|(intro h;cases h;done)|(intro _ _ h;cases h;done)):p:=h
def EK(h:p:=by rw[wZ];omega):p:=h
def EU(h:p:=by have:=g.out;omega):p:=h
def E3(h:p:=by have:=E.out;omega):p:=h
def FD(h:p:=by grind[touchAt_of]):p:=h
def FI(h:p:=by rw[o];omega):p:=h
def FJ(h:p:=by simp[kQ,Act.put]):p:=h
def FN(h:p:=by have:=f.out.size;simp;omega):p:=h
def FP(h:p:=by cases d<;>first|exact hq|(cases c<;>first|exact hq|exact Rl a _ _ b _ _ _ _ |grind[Rm,Rj])):p:=h
def Fa(h:p:=by simpa using h):p:=h
def Fc(h:p:=by rw[Array.size_setIfInBounds];exact h.len):p:=h
def F7(h:p:=by have:=c.out;omega):p:=h
def GG(h:p:=by have:=M.out;omega):p:=h
def GL(h:p:=by rw[IntKind.wrap_i64];omega):p:=h
def GM(h:p:=by simp[a0,stepG,stepG.exec,Frame.at,base]):p:=h
def GO(h:p:=by simp[World.cell?,y]):p:=h
def Ge(h:p:=by have:=Ka.out;simp;omega):p:=h
def Gf(h:p:=by rw[deaf_old (Nat.le_refl _)];exact hd):p:=h
def Gr(h:p:=by rw[E.rules.1];simp):p:=h
def G0(h:p:=by grind[Frame.oper?]):p:=h
def G3(h:p:=by rw[uV];omega):p:=h
def G4(h:p:=by simp[listed,go_sem];rw[Go.events_store _ _ _ _ _ _ rfl,x];simp[U];rfl):p:=h
def G5(h:p:=by simp[results,results66,go_sem,l]):p:=h
def G9(h:p:=by rw[h.len];grind):p:=h
def HH(h:p:=by exact fc ⟨trivial,trivial,trivial,trivial,trivial,trivial⟩):p:=h
def HI(h:p:=by grind[Value.ownBlock]):p:=h
def Hd(h:p:=by cases a<;>first|rfl|exact c.elim):p:=h
def Hw(h:p:=by obtain⟨b,o,n,k,e,f⟩:=D i hi;exact⟨b,o,n,k,e,rfl,.inl f⟩):p:=h
def Hz(h:p:=by intro u y;simp at y;subst y;rfl):p:=h
def H0(h:p:=by grind[maxLen]):p:=h
def IB(h:p:=by unfold qA;rw[List.all_eq_true];intro o _;cases o.dst<;>rfl):p:=h
def IH(h:p:=by subst e;simp_all[ag]):p:=h
def II(h:p:=by rw[A9 m.mt.1 5];simp[show n.al.least=none from j,K.aaX T O s]):p:=h
def IJ(h:p:=by have:=d.out;omega):p:=h
def IS(h:p:=by have:=c.out.size;simp;omega):p:=h
def IT(h:p:=by simp[AW,deafBehind]):p:=h
def Iq(h:p:=by rw[put_defers];exact h.defers):p:=h
def Ir(h:p:=by rw[put_defers];exact H.defers):p:=h
def Is(h:p:=by rw[gY];exact h.size):p:=h
def Iv(h:p:=by grind[bp.word]):p:=h
def Ix(h:p:=by first|exact trivial|exact rfl):p:=h
def I5(h:p:=by obtain⟨bq,s⟩:=NU n.out hg;exact J2 p.out s (by decide)):p:=h
def I7(h:p:=by simp[touchAt,Trace.act?]at h):p:=h
def I8(h:p:=by simp[listed,go_sem,x];rfl):p:=h
def I_(h:p:=by rcases c with h|h|h|h|h<;>first|omega|grind[operands]):p:=h
def JD(h:p:=by simp only[List.all_cons,Bool.and_eq_true];exact hk):p:=h
def JG(h:p:=by simp[listed,go_sem,kQ];rfl):p:=h
def JH(h:p:=by rw[IntKind.wrap_i32];omega):p:=h
def JI(h:p:=by simp[eD]):p:=h
def JJ(h:p:=by simp_all[ag]):p:=h
def JX(h:p:=by have:=j.out.size;omega):p:=h
def Ja(h:p:=by grind[Trace.g?]):p:=h
def Jb(h:p:=by subst e;exact .pure ((l.cells.zeroCells _).rel j)):p:=h
def Jc(h:p:=by rw[a.box.rules.1];rfl):p:=h
def J_(h:p:=by grind[tz]):p:=h
def KC(h:p:=by show n0<=c.heap.size;rw[e.size];exact H.size):p:=h
def KD(h:p:=by simp[Frame.finish,m]):p:=h
def KE(h:p:=by rw[e]):p:=h
def KF(h:p:=by rw[Deaf_own,hd,u,o];rfl):p:=h
def KG(h:p:=by grind[Below.refl,Below.alloc,Below.setCell]):p:=h
def KL(h:p:=by unfold maxLen;omega):p:=h
def KO(h:p:=by simp[gC]):p:=h
def KP(h:p:=by grind[Frame.finish]):p:=h
def KQ(h:p:=by cases o;simp only at a;subst a;simp[go_sem,c]):p:=h
def Kj{n:Nat}:n<=n:=Nat.le_refl n
def Kk(h:p:=by exact λ_=>rfl):p:=h
def Kl(h:p:=by exact cj rfl rfl):p:=h
def Km(h:p:=by exact λ_ _ _ h=>BZ):p:=h
def Kn{n:Nat}:n<n+1:=Nat.lt_succ_self n
def Ko(h:p:=by exact λw k=>⟨k,rfl⟩):p:=h
def Kp(h:p:=by exact h6 rfl rfl (m_ _) AU):p:=h
def K3(h:p:=by exact λ_ _ _ h=>h):p:=h
def K6(h:p:=by exact eC rfl rfl):p:=h
def K_(h:p:=by exact aE rfl (BB rfl rfl (λ_=>rfl) AU)<|aE rfl (eC rfl rfl)<|rfl):p:=h
def LF{α:Sort _}{a:α}{q:Prop}:a=a\/q:=.inl rfl
def LO{α:Sort _}{a:α}{q:Prop}:q\/a=a:=.inr rfl
def LP(h:p:=by exact ey rfl rfl rfl):p:=h
def LQ(h:p:=by exact λ_ _ _ _ _ _ h=>h):p:=h
def LU(h:p:=by exact h6 rfl rfl (x1 _) AU):p:=h
def LV(h:p:=by exact BB rfl rfl (λ_=>rfl) AU):p:=h
def La(h:p:=by exact λh=>h):p:=h
def Lm(h:p:=by exact λe=>e.elim):p:=h
def L9(h:p:=by exact λa w' hn _=>HM rfl a w' hn):p:=h
def MC(h:p:=by exact nJ rfl):p:=h
def MG(h:p:=by exact mr rfl):p:=h
def MH(h:p:=by exact aE rfl (V9 rfl rfl)<|aE rfl (h6 rfl rfl (m_ _) AU)<|rfl):p:=h
def MI(h:p:=by exact EQ rfl rfl (λ_=>rfl) AU):p:=h
def MJ(h:p:=by exact λa w' hn _=>Lj rfl a w' hn):p:=h
def MM(h:p:=by exact λe=>e.app _):p:=h
def Ma(h:p:=by exact λx k hk=>(x k hk).app _):p:=h
