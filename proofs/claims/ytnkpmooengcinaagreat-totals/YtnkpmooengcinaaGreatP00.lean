set_option linter.all false
namespace Go.Proofs.YtnkpmooengcinaaGreat
theorem PA:True:=trivial
theorem U{α:Sort _}{a:α}:a=a:=rfl
def AN{p:Prop}(h:p:=by grind):p:=h
def AT{p:Prop}(h:p:=by decide+kernel):p:=h
def AX{p:Prop}(h:p:=by decide):p:=h
def AY{p:Prop}(h:p:=by omega):p:=h
def Ab{p:Prop}(h:p:=by simp):p:=h
def Au{p:Prop}(h:p:=by cases u<;>decide+kernel):p:=h
def Av{p:Prop}(h:p:=by rfl):p:=h
def A1{p:Prop}(h:p:=by simp[listed,go_sem];rfl):p:=h
def A8{p:Prop}(h:p:=by simp[listed,go_sem,binOp,Op.equal];rw[show Op.maxDepth=9999+1 from rfl,Op.equalIn];simp[go_sem];rfl):p:=h
def BB{p:Prop}(h:p:=by simp_all):p:=h
def BC{p:Prop}(h:p:=by simp;omega):p:=h
def BF{p:Prop}(h:p:=by simp[Act.eval]):p:=h
def BQ{p:Prop}(h:p:=by simp[Fence.wide]at h):p:=h
def BW{p:Prop}(h:p:=by simp[listed,go_sem,q];rfl):p:=h
def BY{p:Prop}(h:p:=by simp[go_sem,binOp,Op.equal];rw[show Op.maxDepth=9999+1 from rfl,Op.equalIn];simp):p:=h
def Bo{p:Prop}(h:p:=by simp only[List.all_cons,Bool.and_eq_true]at hk⊢;exact hk):p:=h
def Bt{p:Prop}(h:p:=by unfold fg;omega):p:=h
def Bv{p:Prop}(h:p:=by have:=q.out;grind):p:=h
def Bw{p:Prop}(h:p:=by have:=a.out.2.2.2.2.2;omega):p:=h
def B_{p:Prop}(h:p:=by unfold maxLen;omega):p:=h
def Cc{p:Prop}(h:p:=by subst e;exact .ite (λ_=>.pure rfl) (λ_=>.pure rfl)):p:=h
def DD{p:Prop}(h:p:=by rw[Array.size_setIfInBounds];exact h.len):p:=h
def DG{p:Prop}(h:p:=by cases e):p:=h
def DN{p:Prop}(h:p:=by grind[Conc.mem_ofEvents]):p:=h
def DU{p:Prop}(h:p:=by simp[World.cell?,a]):p:=h
def DX{p:Prop}(h:p:=by first|(intro h;cases h;done)|(intro _ _ h;cases h;done)):p:=h
def De{p:Prop}(h:p:=by rw[IntKind.wrap_i64];omega):p:=h
def Dk{p:Prop}(h:p:=by simp[Oper.about,d]):p:=h
def Dm{p:Prop}(h:p:=by first|exact func74|exact func108):p:=h
def D6{p:Prop}(h:p:=by first|exact func40|exact func84):p:=h
def D8{p:Prop}(h:p:=by have:=D.out;omega):p:=h
def EB{p:Prop}(h:p:=by grind[touchAt_of]):p:=h
def ED{p:Prop}(h:p:=by rw[iz];exact h.size):p:=h
def EN{p:Prop}(h:p:=by simp[kB,Act.put]):p:=h
def EQ{p:Prop}(h:p:=by grind[put_defers]):p:=h
def EV{p:Prop}(h:p:=by cases d<;>first|exact hq|(cases c<;>first|exact hq|exact O6 a _ _ b _ _ _ _ |grind[O7,O4])):p:=h
def Ea{p:Prop}(h:p:=by obtain⟨b,o,n,k,e,-⟩:=ok.pv t ht;grind):p:=h
def Eg{p:Prop}(h:p:=by obtain⟨a,b⟩:=p;obtain⟨a',b'⟩:=g;obtain⟨rfl,h⟩:=k;exact dU _ _ _ _ h):p:=h
def Eh{p:Prop}(h:p:=by simpa using h):p:=h
def Es{p:Prop}(h:p:=by have:=c.out;omega):p:=h
def Ew{p:Prop}(h:p:=by have:=I.out;omega):p:=h
def Ex{p:Prop}(h:p:=by rw[deaf_old (Nat.le_refl _)];exact hd):p:=h
def FG{p:Prop}(h:p:=by rw[A.rules.1];simp):p:=h
def FJ{p:Prop}(h:p:=by grind[Frame.oper?]):p:=h
def FK{p:Prop}(h:p:=by simp[listed,go_sem];rw[Go.events_store _ _ _ _ _ _ rfl,x];simp[R];rfl):p:=h
def Fa{p:Prop}(h:p:=by first|exact func75|exact func109):p:=h
def Fb{p:Prop}(h:p:=by simp[results,results214,go_sem]):p:=h
def Fc{p:Prop}(h:p:=by first|exact func44|exact func86):p:=h
def Ff{p:Prop}(h:p:=by rw[h.len];grind):p:=h
def Fg{p:Prop}(h:p:=by cases a<;>first|rfl|exact c.elim):p:=h
def Fi{p:Prop}(h:p:=by simp_all[ag]):p:=h
def F0{p:Prop}(h:p:=by intro u x;simp at x;subst x;rfl):p:=h
def F1{p:Prop}(h:p:=by unfold rf;rw[List.all_eq_true];intro o _;cases o.dst<;>rfl):p:=h
def F2{p:Prop}(h:p:=by have:=qf (m:=m) hi {m with sema:=m.sema+1} .idle;grind[dQ,ei]):p:=h
def F3{p:Prop}(h:p:=by have:=d.out;omega):p:=h
def GA{p:Prop}(h:p:=by rw[z1 m.mt.1 5];simp[show n.aj.least=none from j,K.Xu T N s]):p:=h
def GN{p:Prop}(h:p:=by simp[zN,deafBehind]):p:=h
def GO{p:Prop}(h:p:=by simp[World.cell?,y]):p:=h
def GQ{p:Prop}(h:p:=by rw[put_defers];exact h.defers):p:=h
def Gm{p:Prop}(h:p:=by rw[put_defers];exact H.defers):p:=h
def Gn{p:Prop}(h:p:=by rw[e]):p:=h
def Gu{p:Prop}(h:p:=by grind[bh.word]):p:=h
def Gv{p:Prop}(h:p:=by first|exact trivial|exact rfl):p:=h
def Gx{p:Prop}(h:p:=by simp[touchAt,Trace.act?]at h):p:=h
def Gy{p:Prop}(h:p:=by simp[listed,go_sem,x];rfl):p:=h
def Gz{p:Prop}(h:p:=by simp only[List.all_cons,Bool.and_eq_true];exact hk):p:=h
def HF{p:Prop}(h:p:=by simp[listed,go_sem,kB];rfl):p:=h
def HG{p:Prop}(h:p:=by rw[IntKind.wrap_i32];omega):p:=h
def HH{p:Prop}(h:p:=by grind[Trace.g?]):p:=h
def HT{p:Prop}(h:p:=by subst e;exact .pure ((j.cells.zeroCells _).rel aU)):p:=h
def HV{p:Prop}(h:p:=by show n0<=c.heap.size;rw[e.size];exact H.size):p:=h
def HW{p:Prop}(h:p:=by simp[Frame.finish,m]):p:=h
def HX{p:Prop}(h:p:=by rw[Deaf_own,hd,v,o];rfl):p:=h
def HY{p:Prop}(h:p:=by grind[maxLen]):p:=h
def HZ{p:Prop}(h:p:=by cases o3;simp only at E;subst E;simp[go_sem,f0]):p:=h
def Hg{p:Prop}(h:p:=by cases o2;simp only at L;subst L;simp[go_sem,Vg]):p:=h
def Hq{p:Prop}(h:p:=by cases o4;simp only at D;subst D;simp[go_sem,S]):p:=h
def Hr{p:Prop}(h:p:=by cases o1;simp only at F;subst F;simp[go_sem,V]):p:=h
def Hs{p:Prop}(h:p:=by simp[gl]):p:=h
def Hu{p:Prop}(h:p:=by grind[Frame.finish]):p:=h
def Hy{p:Prop}(h:p:=by simp[execOp,b]):p:=h
def IB{n:Nat}:n<=n:=Nat.le_refl n
def IG{p:Prop}(h:p:=by exact λ_ _ _ h=>h):p:=h
def IW{p:Prop}(h:p:=by exact cQ rfl rfl):p:=h
def IX{p:Prop}(h:p:=by exact λ_=>rfl):p:=h
def IY{n:Nat}:n<n+1:=Nat.lt_succ_self n
def IZ{p:Prop}(h:p:=by exact λw k=>⟨k,rfl⟩):p:=h
def Ij{α:Sort _}{a:α}{q:Prop}:a=a\/q:=.inl rfl
def Im{p:Prop}(h:p:=by exact aC rfl (AA rfl rfl (λ_=>rfl) AX)<|aC rfl (eD rfl rfl)<|rfl):p:=h
def In{p:Prop}(h:p:=by exact eD rfl rfl):p:=h
def Io{α:Sort _}{a:α}{q:Prop}:q\/a=a:=.inr rfl
def It{p:Prop}(h:p:=by exact nA rfl rfl (tR _) AX):p:=h
def I0{p:Prop}(h:p:=by exact AA rfl rfl (λ_=>rfl) AX):p:=h
def I3{p:Prop}(h:p:=by exact λh=>h):p:=h
def I4{p:Prop}(h:p:=by exact la rfl):p:=h
def I8{p:Prop}(h:p:=by exact λe=>e.elim):p:=h
def I_{p:Prop}(h:p:=by exact lQ rfl):p:=h
def JC{p:Prop}(h:p:=by exact λ_=>AX):p:=h
def JD{p:Prop}(h:p:=by exact λ_ _ _ _ _ _ h=>h):p:=h
def JF{p:Prop}(h:p:=by exact λe=>e.app _):p:=h
def JW{p:Prop}(h:p:=by exact nA rfl rfl (Jj _) AX):p:=h
def Jg{p:Prop}(h:p:=by exact λx k hk=>(x k hk).app _):p:=h
def Jk{p:Prop}(h:p:=by exact OD rfl rfl (λ_=>rfl) AX):p:=h
def Js{p:Prop}(h:p:=by exact λc e=>AN):p:=h
def Jt{p:Prop}(h:p:=by exact λb d=>⟨rfl,.inl d⟩):p:=h
