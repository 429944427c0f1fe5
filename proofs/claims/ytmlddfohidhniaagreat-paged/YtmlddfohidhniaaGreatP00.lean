set_option linter.all false
namespace Go.Proofs.YtmlddfohidhniaaGreat
theorem PJ:True:=trivial
theorem Y{α:Sort _}{a:α}:a=a:=rfl
def AA{p:Prop}(h:p:=by grind):p:=h
def AJ{p:Prop}(h:p:=by decide+kernel):p:=h
def AP{p:Prop}(h:p:=by omega):p:=h
def AX{p:Prop}(h:p:=by decide):p:=h
def Ad{p:Prop}(h:p:=by simp):p:=h
def Aq{p:Prop}(h:p:=by simp;omega):p:=h
def BH{p:Prop}(h:p:=by simp[listed,go_sem];rfl):p:=h
def BJ{p:Prop}(h:p:=by rfl):p:=h
def BK{p:Prop}(h:p:=by simp_all):p:=h
def BT{p:Prop}(h:p:=by cases h.1):p:=h
def BZ{p:Prop}(h:p:=by simp[listed,go_sem,hc];rfl):p:=h
def Bc{p:Prop}(h:p:=by rw[Gg (m2 L W S) (by decide)];cases L<;>cases W<;>cases S<;>rfl):p:=h
def Bu{p:Prop}(h:p:=by unfold cT;omega):p:=h
def Bz{p:Prop}(h:p:=by simp[Act.eval]):p:=h
def CB{p:Prop}(h:p:=by have:=m2 L W S;omega):p:=h
def CC{p:Prop}(h:p:=by simp only[List.all_cons,Bool.and_eq_true]at hk⊢;exact hk):p:=h
def Cc{p:Prop}(h:p:=by have:=u.out;grind):p:=h
def Ci{p:Prop}(h:p:=by subst e;exact .ite (λ_=>.pure rfl) (λ_=>.pure rfl)):p:=h
def Cm{p:Prop}(h:p:=by simp[Fence.wide]at h):p:=h
def Cn{p:Prop}(h:p:=by cases e):p:=h
def DH{p:Prop}(h:p:=by simp[iE]):p:=h
def DO{p:Prop}(h:p:=by rw[TE (m2 L W S) (by decide)];cases L<;>cases W<;>cases S<;>rfl):p:=h
def DR{p:Prop}(h:p:=by simp_all[a3.iS]):p:=h
def DZ{p:Prop}(h:p:=by grind[Conc.mem_ofEvents]):p:=h
def D2{p:Prop}(h:p:=by simp[exitTo]):p:=h
def D8{p:Prop}(h:p:=by simp[World.cell?,a]):p:=h
def EE{p:Prop}(h:p:=by unfold maxLen;omega):p:=h
def EJ{p:Prop}(h:p:=by simpa using h):p:=h
def EP{p:Prop}(h:p:=by simp[go_sem,ev]):p:=h
def ET{p:Prop}(h:p:=by first|(intro h;cases h;done)|(intro _ _ h;cases h;done)):p:=h
def EX{p:Prop}(h:p:=by rw[IntKind.wrap_i64];omega):p:=h
def Ec{p:Prop}(h:p:=by simp[listed,go_sem,binOp,Op.equal];rw[show Op.maxDepth=9999+1 from rfl,Op.equalIn];simp[go_sem];rfl):p:=h
def Ee{p:Prop}(h:p:=by rw[j1 (av Tryz.f3 0)];exact⟨_,rfl,rfl,rfl,rfl⟩):p:=h
def Ep{p:Prop}(h:p:=by have:=H.out;omega):p:=h
def Ev{p:Prop}(h:p:=by grind[touchAt_of]):p:=h
def Ez{p:Prop}(h:p:=by cases d<;>first|exact hq|(cases c<;>first|exact hq|exact Ql a _ _ b _ _ _ _ |grind[Qm,Qj])):p:=h
def E0{p:Prop}(h:p:=by obtain⟨a,b⟩:=p;obtain⟨a',b'⟩:=g;obtain⟨rfl,h⟩:=k;exact dK _ _ _ _ h):p:=h
def E3{p:Prop}(h:p:=by rw[Array.size_setIfInBounds];exact h.len):p:=h
def E5{p:Prop}(h:p:=by have:=c.out;omega):p:=h
def FA{p:Prop}(h:p:=by have:=O.out;omega):p:=h
def FB{p:Prop}(h:p:=by cases u<;>decide+kernel):p:=h
def FD{p:Prop}(h:p:=by have:=c.out.size;omega):p:=h
def FJ{p:Prop}(h:p:=by rw[deaf_old (Nat.le_refl _)];exact hd):p:=h
def FK{p:Prop}(h:p:=by rw[E.rules.1];simp):p:=h
def FL{p:Prop}(h:p:=by grind[Frame.oper?]):p:=h
def FN{p:Prop}(h:p:=by simp[Value.oneCell']):p:=h
def FU{p:Prop}(h:p:=by rw[h.len];grind):p:=h
def FX{p:Prop}(h:p:=by cases a<;>first|rfl|exact c.elim):p:=h
def FZ{p:Prop}(h:p:=by simpa using c):p:=h
def Fc{p:Prop}(h:p:=by simp[qL]):p:=h
def Fl{p:Prop}(h:p:=by intro u y;simp at y;subst y;rfl):p:=h
def Fu{p:Prop}(h:p:=by grind[maxLen]):p:=h
def Fw{p:Prop}(h:p:=by unfold pR;rw[List.all_eq_true];intro o _;cases o.dst<;>rfl):p:=h
def Fy{p:Prop}(h:p:=by have:=qi (m:=m) hi {m with sema:=m.sema+1} .idle;grind[dR,ep]):p:=h
def F5{p:Prop}(h:p:=by have:=d.out;omega):p:=h
def F6{p:Prop}(h:p:=by simp[zS,deafBehind]):p:=h
def GA{p:Prop}(h:p:=by rw[put_defers];exact h.defers):p:=h
def GH{p:Prop}(h:p:=by rw[put_defers];exact H.defers):p:=h
def GR{p:Prop}(h:p:=by rw[iS];exact h.size):p:=h
def GU{p:Prop}(h:p:=by grind[rF]):p:=h
def GX{p:Prop}(h:p:=by grind[put_defers]):p:=h
def Gi{p:Prop}(h:p:=by grind[bk.word]):p:=h
def Gl{p:Prop}(h:p:=by first|exact trivial|exact rfl):p:=h
def Gm{p:Prop}(h:p:=by simp[touchAt,Trace.act?]at h):p:=h
def Gv{p:Prop}(h:p:=by rw[I.out,B_.out];exact l.out):p:=h
def HH{p:Prop}(h:p:=by simp[Question.cut]):p:=h
def HK{p:Prop}(h:p:=by rw[b.rules.1];simp):p:=h
def HR{p:Prop}(h:p:=by simp[dt,hand]):p:=h
def HS{p:Prop}(h:p:=by simp only[List.all_cons,Bool.and_eq_true];exact hk):p:=h
def HT{p:Prop}(h:p:=by simp[intOf];omega):p:=h
def He{p:Prop}(h:p:=by rw[y,B];first|done|simp):p:=h
def H0{p:Prop}(h:p:=by rw[e]):p:=h
def H4{p:Prop}(h:p:=by rw[IntKind.wrap_i32];omega):p:=h
def H9{p:Prop}(h:p:=by have:=hS b hs;simp;omega):p:=h
def H_{p:Prop}(h:p:=by grind[Trace.g?]):p:=h
def ID{p:Prop}(h:p:=by rw[j1 (av Tryz.f3 1)];exact⟨_,rfl,rfl,rfl,rfl⟩):p:=h
def II{p:Prop}(h:p:=by subst e;exact .pure ((l.cells.zeroCells _).rel j)):p:=h
def IK{p:Prop}(h:p:=by rw[b.box.rules.1];rfl):p:=h
def IL{p:Prop}(h:p:=by simpa using hi):p:=h
def Iz{p:Prop}(h:p:=by simp[ew]):p:=h
def I2{p:Prop}(h:p:=by show n0<=c.heap.size;rw[e.size];exact H.size):p:=h
def I3{p:Prop}(h:p:=by simp[Frame.finish,m]):p:=h
def I4{p:Prop}(h:p:=by rw[Deaf_own,hd,v,o];rfl):p:=h
def I5{p:Prop}(h:p:=by rw[if_neg (by have:=i.out;have:=uT.out;omega)]):p:=h
def JF{p:Prop}(h:p:=by simp[gh]):p:=h
def JR{p:Prop}(h:p:=by grind[Frame.finish]):p:=h
def JS{p:Prop}(h:p:=by cases o;simp only at a;subst a;simp[go_sem,c]):p:=h
def JT{n:Nat}:n<=n:=Nat.le_refl n
def JU{p:Prop}(h:p:=by exact bf rfl rfl):p:=h
def JV{p:Prop}(h:p:=by exact ck rfl rfl (eX _) AX):p:=h
def Jd{p:Prop}(h:p:=by exact λ_=>rfl):p:=h
def Je{p:Prop}(h:p:=by exact λ_ _ _ h=>BT):p:=h
def Jo{n:Nat}:n<n+1:=Nat.lt_succ_self n
def Jp{p:Prop}(h:p:=by exact ck rfl rfl (lr _) AX):p:=h
def Jq{p:Prop}(h:p:=by exact df rfl rfl):p:=h
def Jr{p:Prop}(h:p:=by exact aq rfl (bf rfl rfl)<|aq rfl (nL rfl rfl (λ_=>rfl) Bu AX)<|aq rfl (df rfl rfl)<|rfl):p:=h
def Jy{p:Prop}(h:p:=by exact λw k=>⟨k,rfl⟩):p:=h
def J1{α:Sort _}{a:α}{q:Prop}:a=a\/q:=.inl rfl
def J2{p:Prop}(h:p:=by exact aq rfl (w9 rfl rfl (λ_=>rfl) AX)<|aq rfl (df rfl rfl)<|rfl):p:=h
def J9{p:Prop}(h:p:=by exact mD rfl rfl AX):p:=h
def KK{α:Sort _}{a:α}{q:Prop}:q\/a=a:=.inr rfl
def KL{p:Prop}(h:p:=by exact ki rfl rfl rfl):p:=h
def KM{p:Prop}(h:p:=by exact hP rfl rfl AX rO):p:=h
def KO{p:Prop}(h:p:=by exact w9 rfl rfl (λ_=>rfl) AX):p:=h
def KP{p:Prop}(h:p:=by exact ck rfl rfl (w_ _) AX):p:=h
def KQ{p:Prop}(h:p:=by exact λ_ _ _ h=>h):p:=h
def KW{p:Prop}(h:p:=by exact nL rfl rfl (λ_=>rfl) Bu AX):p:=h
def KY{p:Prop}(h:p:=by exact hP rfl rfl AX za):p:=h
def Kc{p:Prop}(h:p:=by exact sZ rfl rfl):p:=h
def Kh{p:Prop}(h:p:=by exact sY rfl rfl):p:=h
def Ki{p:Prop}(h:p:=by exact lI rfl):p:=h
def Kl{p:Prop}(h:p:=by exact λe=>e.elim):p:=h
def Kt{p:Prop}(h:p:=by exact m7 rfl):p:=h
def Kx{p:Prop}(h:p:=by exact λh=>h):p:=h
def K1{p:Prop}(h:p:=by exact aq rfl (bf rfl rfl)<|aq rfl (UI rfl rfl)<|aq rfl (UJ rfl rfl)<|aq rfl (df rfl rfl)<|aq rfl (df rfl rfl)<|rfl):p:=h
def K8{p:Prop}(h:p:=by exact AD rfl rfl rfl AX):p:=h
def LD{p:Prop}(h:p:=by exact λ_ _ _ _ _ _ h=>h):p:=h
def LH{p:Prop}(h:p:=by exact hP rfl rfl AX DY):p:=h
def LK{p:Prop}(h:p:=by exact ee rfl rfl rfl (hk) AX):p:=h
def LR{p:Prop}(h:p:=by exact λe=>e.app _):p:=h
def LX{p:Prop}(h:p:=by exact nL rfl rfl rfl Bu AX):p:=h
def Lb{p:Prop}(h:p:=by exact λx k hk=>(x k hk).app _):p:=h
def Lc{p:Prop}(h:p:=by exact λ_ _ _ _ _ a h=>a _ _ h):p:=h
