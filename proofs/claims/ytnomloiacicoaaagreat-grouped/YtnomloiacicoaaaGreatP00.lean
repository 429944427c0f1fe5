set_option linter.all false
namespace Go.Proofs.YtnomloiacicoaaaGreat
variable{p:Prop}
theorem NE:True:=trivial
theorem Y{α:Sort _}{a:α}:a=a:=rfl
def AA(h:p:=by grind):p:=h
def AD(h:p:=by decide+kernel):p:=h
def AF(h:p:=by decide):p:=h
def AQ(h:p:=by omega):p:=h
def AS(h:p:=by simp):p:=h
def Ao(h:p:=by rfl):p:=h
def A8(h:p:=by cases u<;>decide+kernel):p:=h
def BA(h:p:=by simp;omega):p:=h
def BB(h:p:=by simp_all):p:=h
def BP(h:p:=by simp[listed,go_sem];rfl):p:=h
def BX(h:p:=by cases h.1):p:=h
def Bk(h:p:=by simp[Act.eval]):p:=h
def Bw(h:p:=by grind[stepG.exec,leave,yy,Sem.runT_eq]):p:=h
def B3(h:p:=by simp[listed,go_sem,q];rfl):p:=h
def B6(h:p:=by rw[h]at x;simp_all[fK,nc]):p:=h
def CI(h:p:=by simp[Fence.wide]at h):p:=h
def CL(h:p:=by rw[IntKind.wrap_i64];omega):p:=h
def CQ(h:p:=by simp only[List.all_cons,Bool.and_eq_true]at hk⊢;exact hk):p:=h
def CR(h:p:=by have:=s.out;grind):p:=h
def Ca(h:p:=by have:=a.out.2.2.2.2.2;omega):p:=h
def Cb(h:p:=by subst e;exact .ite (λ_=>.pure rfl) (λ_=>.pure rfl)):p:=h
def Cj(h:p:=by unfold ek;omega):p:=h
def Cp(h:p:=by rw[Array.size_setIfInBounds];exact h.len):p:=h
def C0(h:p:=by simp[i8]):p:=h
def C5(h:p:=by simp_all[aV.jR]):p:=h
def C7(h:p:=by grind[Conc.mem_ofEvents]):p:=h
def C8(h:p:=by simp[World.cell?,a]):p:=h
def Dt(h:p:=by simpa using h):p:=h
def Dv(h:p:=by unfold maxLen;omega):p:=h
def Dw(h:p:=by simp[go_sem,ev]):p:=h
def EU(h:p:=by first|(intro h;cases h;done)|(intro _ _ h;cases h;done)):p:=h
def E1(h:p:=by first|exact func81|exact func115):p:=h
def FO(h:p:=by simp[listed,go_sem,binOp,Op.equal];rw[show Op.maxDepth=9999+1 from rfl,Op.equalIn];simp[go_sem];rfl):p:=h
def FR(h:p:=by first|exact func47|exact func91):p:=h
def FU(h:p:=by have:=E.out;omega):p:=h
def Fe(h:p:=by grind[touchAt_of]):p:=h
def Fh(h:p:=by rw[jR];exact h.size):p:=h
def Fl(h:p:=by simp<;>omega):p:=h
def Fw(h:p:=by cases d<;>first|exact hq|(cases c<;>first|exact hq|exact R2 a _ _ b _ _ _ _ |grind[R3,R0])):p:=h
def GA(h:p:=by cases e):p:=h
def GB(h:p:=by grind[Hid]):p:=h
def GI(h:p:=by obtain⟨a,b⟩:=p;obtain⟨a',b'⟩:=g;obtain⟨rfl,h⟩:=k;exact dF _ _ _ _ h):p:=h
def GL(h:p:=by have:=o.out;omega):p:=h
def GM(h:p:=by have:=c.out;omega):p:=h
def GN(h:p:=by have:=M.out;omega):p:=h
def GX(h:p:=by rw[deaf_old (Nat.le_refl _)];exact hd):p:=h
def Gc(h:p:=by rw[E.rules.1];simp):p:=h
def Gl(h:p:=by simp[results,results221,go_sem]):p:=h
def Gv(h:p:=by grind[rI]):p:=h
def Gz(h:p:=by first|exact func51|exact func93):p:=h
def G4(h:p:=by rw[h.len];grind):p:=h
def G_(h:p:=by assumption):p:=h
def HL(h:p:=by cases a<;>first|rfl|exact c.elim):p:=h
def HM(h:p:=by simp[Oper.about,d]):p:=h
def HN(h:p:=by intro u t;simp at t;subst t;rfl):p:=h
def Hb(h:p:=by grind[maxLen]):p:=h
def Hf(h:p:=by unfold qE;rw[List.all_eq_true];intro o _;cases o.dst<;>rfl):p:=h
def Hk(h:p:=by have:=ry (m:=m) hi {m with sema:=m.sema+1} .idle;grind[er,eI]):p:=h
def Hm(h:p:=by have:=d.out;omega):p:=h
def Hu(h:p:=by simp[World.cell?,r]):p:=h
def Hx(h:p:=by simp[A4,deafBehind]):p:=h
def Hy(h:p:=by rw[put_defers];exact h.defers):p:=h
def H5(h:p:=by rw[put_defers];exact H.defers):p:=h
def H7(h:p:=by grind[be.word]):p:=h
def ID(h:p:=by first|exact trivial|exact rfl):p:=h
def IE(h:p:=by simp[touchAt,Trace.act?]at h):p:=h
def IH(h:p:=by rw[b.rules.1];simp):p:=h
def IY(h:p:=by simp only[List.all_cons,Bool.and_eq_true];exact hk):p:=h
def Ia(h:p:=by rw[IntKind.wrap_i32];omega):p:=h
def Iu(h:p:=by rw[Deaf_own,hd,e1,e2];rfl):p:=h
def Iz(h:p:=by grind[Trace.g?]):p:=h
def I3(h:p:=by subst e;exact .pure ((l.cells.zeroCells _).rel j)):p:=h
def I4(h:p:=by simpa using c):p:=h
def I5(h:p:=by cases h):p:=h
def I7(h:p:=by show n0<=c.heap.size;rw[e.size];exact H.size):p:=h
def I_(h:p:=by exact jT ⟨trivial,trivial,trivial,trivial⟩):p:=h
def JC(h:p:=by rw[e]):p:=h
def JF(h:p:=by cases o;simp only at a;subst a;simp[go_sem,e0]):p:=h
def JG(h:p:=by simp[gI]):p:=h
def JQ(h:p:=by rw[Ar];omega):p:=h
def JR{n:Nat}:n<=n:=Nat.le_refl n
def Jc(h:p:=by exact bk rfl rfl):p:=h
def Jd(h:p:=by exact b8 rfl rfl (dP _) AF):p:=h
def Jf(h:p:=by exact λ_ _ _ h=>h):p:=h
def Jg(h:p:=by exact λ_=>rfl):p:=h
def Jj(h:p:=by exact λ_ _ _ h=>BX):p:=h
def Jo{n:Nat}:n<n+1:=Nat.lt_succ_self n
def Jp(h:p:=by exact ap rfl (u_ rfl rfl (λ_=>rfl) AF)<|ap rfl (dO rfl rfl)<|rfl):p:=h
def Jt(h:p:=by exact dO rfl rfl):p:=h
def Ju(h:p:=by exact λw k=>⟨k,rfl⟩):p:=h
def Jv{α:Sort _}{a:α}{q:Prop}:a=a\/q:=.inl rfl
def Jx(h:p:=by exact b8 rfl rfl (pS _) AF):p:=h
def Jy(h:p:=by exact b8 rfl rfl (qJ _) AF):p:=h
def Jz{α:Sort _}{a:α}{q:Prop}:q\/a=a:=.inr rfl
def J1(h:p:=by exact jY rfl rfl):p:=h
def J4(h:p:=by exact u_ rfl rfl (λ_=>rfl) AF):p:=h
def J5(h:p:=by exact iZ rfl rfl AF pR):p:=h
def KF(h:p:=by exact ap rfl (bk rfl rfl)<|ap rfl (x8 rfl rfl (λ_=>rfl) Cj AF)<|ap rfl (dO rfl rfl)<|rfl):p:=h
def KG(h:p:=by exact iY rfl rfl rfl):p:=h
def KH(h:p:=by exact iZ rfl rfl AF va):p:=h
def KI(h:p:=by exact lY rfl):p:=h
def KJ(h:p:=by exact λd _ _ x=>B6):p:=h
def KN(h:p:=by exact sS rfl rfl):p:=h
def KQ(h:p:=by exact λe=>e.elim):p:=h
def KW(h:p:=by exact mO rfl):p:=h
def Ke(h:p:=by exact λh=>h):p:=h
def K1(h:p:=by exact λ_=>AF):p:=h
def K4(h:p:=by exact IP rfl rfl rfl AF rfl):p:=h
def K8(h:p:=by exact λc e=>AA):p:=h
def K9(h:p:=by exact x8 rfl rfl (λ_=>rfl) Cj AF):p:=h
def LB(h:p:=by exact λe=>e.app _):p:=h
def LK(h:p:=by exact λ_ _ h=>h):p:=h
def LL(h:p:=by exact λ_ _ _ _ _ _ h=>h):p:=h
def LM(h:p:=by exact Ay rfl rfl):p:=h
def LN(h:p:=by exact λx k hk=>(x k hk).app _):p:=h
def LO(h:p:=by exact λa a' b h1 h2=>h1.1.trans h2.1.symm):p:=h
