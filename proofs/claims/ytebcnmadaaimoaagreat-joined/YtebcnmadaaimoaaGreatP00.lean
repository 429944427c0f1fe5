set_option linter.all false
namespace Go.Proofs.YtebcnmadaaimoaaGreat
theorem NE:True:=trivial
theorem U{α:Sort _}{a:α}:a=a:=rfl
def AF{p:Prop}(h:p:=by grind):p:=h
def AQ{p:Prop}(h:p:=by decide+kernel):p:=h
def AU{p:Prop}(h:p:=by decide):p:=h
def AX{p:Prop}(h:p:=by omega):p:=h
def Ab{p:Prop}(h:p:=by simp):p:=h
def A2{p:Prop}(h:p:=by simp;omega):p:=h
def BB{p:Prop}(h:p:=by simp[listed,go_sem];rfl):p:=h
def BK{p:Prop}(h:p:=by rfl):p:=h
def Bc{p:Prop}(h:p:=by simp_all):p:=h
def Be{p:Prop}(h:p:=by simp[listed,go_sem,binOp,Op.equal];rw[show Op.maxDepth=9999+1 from rfl,Op.equalIn];simp[go_sem];rfl):p:=h
def Bg{p:Prop}(h:p:=by cases h.1):p:=h
def Bn{p:Prop}(h:p:=by simp[Act.eval]):p:=h
def Bw{p:Prop}(h:p:=by simp[listed,go_sem,q];rfl):p:=h
def CE{p:Prop}(h:p:=by simp only[List.all_cons,Bool.and_eq_true]at hk⊢;exact hk):p:=h
def CI{p:Prop}(h:p:=by have:=s.out;grind):p:=h
def CS{p:Prop}(h:p:=by subst e;exact .ite (λ_=>.pure rfl) (λ_=>.pure rfl)):p:=h
def Cg{p:Prop}(h:p:=by simp[go_sem,binOp,Op.equal];rw[show Op.maxDepth=9999+1 from rfl,Op.equalIn];simp):p:=h
def Cl{p:Prop}(h:p:=by simp[Fence.wide]at h):p:=h
def Cn{p:Prop}(h:p:=by cases e):p:=h
def Ct{p:Prop}(h:p:=by rw[g8 (ay Tryz.f3 1)];exact⟨_,rfl,rfl,rfl,rfl⟩):p:=h
def Cv{p:Prop}(h:p:=by unfold eC;omega):p:=h
def Cw{p:Prop}(h:p:=by simp[iY]):p:=h
def C0{p:Prop}(h:p:=by simp_all[bc.fo]):p:=h
def C1{p:Prop}(h:p:=by grind[Conc.mem_ofEvents]):p:=h
def C3{p:Prop}(h:p:=by simp[World.cell?,a]):p:=h
def C6{p:Prop}(h:p:=by unfold maxLen;omega):p:=h
def Dd{p:Prop}(h:p:=by simpa using h):p:=h
def De{p:Prop}(h:p:=by simp[go_sem,ev]):p:=h
def EF{p:Prop}(h:p:=by first|(intro h;cases h;done)|(intro _ _ h;cases h;done)):p:=h
def EK{p:Prop}(h:p:=by have:=Q.out;omega):p:=h
def EP{p:Prop}(h:p:=by grind[touchAt_of]):p:=h
def EQ{p:Prop}(h:p:=by cases d<;>first|exact hq|(cases c<;>first|exact hq|exact Qv a _ _ b _ _ _ _ |grind[Qw,Qt])):p:=h
def EZ{p:Prop}(h:p:=by obtain⟨a,b⟩:=p;obtain⟨a',b'⟩:=g;obtain⟨rfl,h⟩:=k;exact dN _ _ _ _ h):p:=h
def El{p:Prop}(h:p:=by rw[Array.size_setIfInBounds];exact h.len):p:=h
def Es{p:Prop}(h:p:=by have:=c.out;omega):p:=h
def Eu{p:Prop}(h:p:=by have:=O.out;omega):p:=h
def E5{p:Prop}(h:p:=by rw[IntKind.wrap_i64];omega):p:=h
def E8{p:Prop}(h:p:=by cases u<;>decide+kernel):p:=h
def FA{p:Prop}(h:p:=by simp[exitTo]):p:=h
def FD{p:Prop}(h:p:=by have:=c.out.size;omega):p:=h
def FH{p:Prop}(h:p:=by rw[deaf_old (Nat.le_refl _)];exact hd):p:=h
def FI{p:Prop}(h:p:=by rw[E.rules.1];simp):p:=h
def FQ{p:Prop}(h:p:=by grind[Frame.oper?]):p:=h
def FY{p:Prop}(h:p:=by simp[listed,go_sem];rw[Go.events_store _ _ _ _ _ _ rfl,x];simp[Q];rfl):p:=h
def Fa{p:Prop}(h:p:=by simp;exact⟨.int _ _,.nil _ _⟩):p:=h
def Fb{p:Prop}(h:p:=by exact jO ⟨trivial,trivial,trivial,trivial,trivial,trivial,trivial⟩):p:=h
def Fh{p:Prop}(h:p:=by simp[Value.oneCell']):p:=h
def Fi{p:Prop}(h:p:=by rw[h.len];grind):p:=h
def Fv{p:Prop}(h:p:=by cases a<;>first|rfl|exact c.elim):p:=h
def Fz{p:Prop}(h:p:=by simpa using c):p:=h
def F_{p:Prop}(h:p:=by simp[ru]):p:=h
def GF{p:Prop}(h:p:=by intro u y;simp at y;subst y;rfl):p:=h
def GU{p:Prop}(h:p:=by grind[maxLen]):p:=h
def GY{p:Prop}(h:p:=by unfold qg;rw[List.all_eq_true];intro o _;cases o.dst<;>rfl):p:=h
def GZ{p:Prop}(h:p:=by have:=d.out;omega):p:=h
def Gb{p:Prop}(h:p:=by rw[AO m.mt.1 5];simp[show n.aj.least=none from j,K.Zr T N s]):p:=h
def Gc{p:Prop}(h:p:=by simp[AB,deafBehind]):p:=h
def Ge{p:Prop}(h:p:=by rw[put_defers];exact h.defers):p:=h
def Gj{p:Prop}(h:p:=by rw[put_defers];exact H.defers):p:=h
def Gk{p:Prop}(h:p:=by rw[fo];exact h.size):p:=h
def Gl{p:Prop}(h:p:=by grind[sj]):p:=h
def Gm{p:Prop}(h:p:=by grind[put_defers]):p:=h
def Gt{p:Prop}(h:p:=by grind[bn.word]):p:=h
def Gu{p:Prop}(h:p:=by first|exact trivial|exact rfl):p:=h
def Gw{p:Prop}(h:p:=by exact jO ⟨trivial,trivial,trivial,trivial,trivial⟩):p:=h
def G7{p:Prop}(h:p:=by simp[touchAt,Trace.act?]at h):p:=h
def HJ{p:Prop}(h:p:=by simp[listed,go_sem,x];rfl):p:=h
def HW{p:Prop}(h:p:=by rw[K.out,CP.out];exact l.out):p:=h
def HX{p:Prop}(h:p:=by simp[Question.cut]):p:=h
def Hb{p:Prop}(h:p:=by rw[b.rules.1];simp):p:=h
def Hj{p:Prop}(h:p:=by simp[dB,hand]):p:=h
def Hp{p:Prop}(h:p:=by rw[uh];omega):p:=h
def Hq{p:Prop}(h:p:=by simp only[List.all_cons,Bool.and_eq_true];exact hk):p:=h
def Hs{p:Prop}(h:p:=by simp[intOf];omega):p:=h
def H1{p:Prop}(h:p:=by simp[dp]):p:=h
def IC{p:Prop}(h:p:=by simp[base]):p:=h
def ID{p:Prop}(h:p:=by rw[y,B];first|done|simp):p:=h
def IZ{p:Prop}(h:p:=by rw[IntKind.wrap_i32];omega):p:=h
def Ia{p:Prop}(h:p:=by grind[Trace.g?]):p:=h
def Ie{p:Prop}(h:p:=by rw[g8 (ay Tryz.f3 2)];exact⟨_,rfl,rfl,rfl,rfl⟩):p:=h
def Il{p:Prop}(h:p:=by rw[g8 (ay Tryz.f3 0)];exact⟨_,rfl,rfl,rfl,rfl⟩):p:=h
def Im{p:Prop}(h:p:=by subst e;exact .pure ((l.cells.zeroCells _).rel j)):p:=h
def In{p:Prop}(h:p:=by rw[d.box.rules.1];rfl):p:=h
def Iu{p:Prop}(h:p:=by simpa using hi):p:=h
def Ix{p:Prop}(h:p:=by show n0<=c.heap.size;rw[e.size];exact H.size):p:=h
def I8{p:Prop}(h:p:=by simp[Frame.finish,m]):p:=h
def JS{p:Prop}(h:p:=by rw[e]):p:=h
def JT{p:Prop}(h:p:=by rw[Deaf_own,hd,u,o];rfl):p:=h
def JU{p:Prop}(h:p:=by simp[gA]):p:=h
def JZ{p:Prop}(h:p:=by grind[Frame.finish]):p:=h
def Ja{p:Prop}(h:p:=by cases o;simp only at a;subst a;simp[go_sem,c]):p:=h
def Jb{n:Nat}:n<=n:=Nat.le_refl n
def Jc{p:Prop}(h:p:=by exact bw rfl rfl):p:=h
def Jr{p:Prop}(h:p:=by exact co rfl rfl (eG _) AU):p:=h
def Jx{p:Prop}(h:p:=by exact λ_=>rfl):p:=h
def Jy{p:Prop}(h:p:=by exact λ_ _ _ h=>Bg):p:=h
def Jz{n:Nat}:n<n+1:=Nat.lt_succ_self n
def J5{p:Prop}(h:p:=by exact co rfl rfl (ma _) AU):p:=h
def KB{α:Sort _}{a:α}{q:Prop}:a=a\/q:=.inl rfl
def KF{p:Prop}(h:p:=by exact λw k=>⟨k,rfl⟩):p:=h
def KV{p:Prop}(h:p:=by exact dX rfl rfl):p:=h
def KZ{p:Prop}(h:p:=by exact ao rfl (uC rfl rfl (λ_=>rfl) AU)<|ao rfl (dX rfl rfl)<|rfl):p:=h
def Kh{p:Prop}(h:p:=by exact mb rfl rfl AU):p:=h
def Ki{p:Prop}(h:p:=by exact ao rfl (bw rfl rfl)<|ao rfl (zM rfl rfl (λ_=>rfl) Cv AU)<|ao rfl (dX rfl rfl)<|rfl):p:=h
def Kj{α:Sort _}{a:α}{q:Prop}:q\/a=a:=.inr rfl
def Kk{p:Prop}(h:p:=by exact kn rfl rfl rfl):p:=h
def Kl{p:Prop}(h:p:=by exact hM rfl rfl AU ss):p:=h
def Kr{p:Prop}(h:p:=by exact uC rfl rfl (λ_=>rfl) AU):p:=h
def Ks{p:Prop}(h:p:=by exact co rfl rfl (xy _) AU):p:=h
def Kt{p:Prop}(h:p:=by exact λ_ _ _ h=>h):p:=h
def K8{p:Prop}(h:p:=by exact λh=>h):p:=h
def K9{p:Prop}(h:p:=by exact qt rfl rfl):p:=h
def K_{p:Prop}(h:p:=by exact hM rfl rfl AU zO):p:=h
def LA{p:Prop}(h:p:=by exact hM rfl rfl AU zN):p:=h
def LB{p:Prop}(h:p:=by exact l7 rfl):p:=h
def LH{p:Prop}(h:p:=by exact λe=>e.elim):p:=h
def LI{p:Prop}(h:p:=by exact ao rfl (bw rfl rfl)<|ao rfl (UW rfl rfl)<|ao rfl (UX rfl rfl)<|ao rfl (dX rfl rfl)<|ao rfl (dX rfl rfl)<|rfl):p:=h
def LJ{p:Prop}(h:p:=by exact EB rfl rfl rfl AU):p:=h
def LN{p:Prop}(h:p:=by exact px rfl):p:=h
def LO{p:Prop}(h:p:=by exact ao rfl (bw rfl rfl)<|ao rfl (zM rfl rfl (λ_=>rfl) (agT _ AX) AU)<|ao rfl (dX rfl rfl)<|rfl):p:=h
def LP{p:Prop}(h:p:=by exact dQ rfl rfl rfl (hk) AU):p:=h
def LW{p:Prop}(h:p:=by exact zM rfl rfl (λ_=>rfl) Cv AU):p:=h
def Lb{p:Prop}(h:p:=by exact λe=>e.app _):p:=h
def Lc{p:Prop}(h:p:=by exact co rfl rfl (KC _) AU):p:=h
def Ld{p:Prop}(h:p:=by exact λx k hk=>(x k hk).app _):p:=h
def Lj{p:Prop}(h:p:=by exact λ_ _ _ _ _ a h=>a _ _ h):p:=h
