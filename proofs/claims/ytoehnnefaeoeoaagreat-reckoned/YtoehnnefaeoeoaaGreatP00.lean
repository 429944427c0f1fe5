namespace Go.Proofs.YtoehnnefaeoeoaaGreat
theorem AS{p:Prop}(h:p:=by decide+kernel):p:=h
theorem AU{p:Prop}(h:p:=by grind):p:=h
theorem AW{p:Prop}(h:p:=by decide):p:=h
theorem Aa{p:Prop}(h:p:=by simp):p:=h
theorem Ay{p:Prop}(h:p:=by omega):p:=h
theorem Bb{p:Prop}(h:p:=by simp[listed,go_sem];rfl):p:=h
theorem Bp{p:Prop}(h:p:=by simp_all):p:=h
theorem Bu{p:Prop}(h:p:=by simp;omega):p:=h
theorem B2{p:Prop}(h:p:=by rfl):p:=h
theorem CS{p:Prop}(h:p:=by cases h.1):p:=h
theorem CX{p:Prop}(h:p:=by simp[Act.eval]):p:=h
theorem Ct{p:Prop}(h:p:=by rw[IntKind.wrap_i64];omega):p:=h
theorem AY{p:Prop}(h:p:=by simp[listed,go_sem,j];rfl):p:=h
theorem C7{p:Prop}(h:p:=by rw[Nat.add_comm];exact h.val m hi hl):p:=h
theorem C8{p:Prop}(h:p:=by grind[put_defers]):p:=h
theorem DF{p:Prop}(h:p:=by simp<;>omega):p:=h
theorem Hz{p:Prop}(h:p:=by have:=s.out;grind):p:=h
theorem DK{p:Prop}(h:p:=by unfold kS;decide):p:=h
theorem DR{p:Prop}(h:p:=by assumption):p:=h
theorem DS{p:Prop}(h:p:=by rw[Array.size_setIfInBounds];exact h.len):p:=h
theorem Df{p:Prop}(h:p:=by simp[d8]):p:=h
theorem Dl{p:Prop}(h:p:=by grind[gQ]):p:=h
theorem Dn{p:Prop}(h:p:=by simp[Fence.wide]at h):p:=h
theorem Dr{p:Prop}(h:p:=by grind[jU]):p:=h
theorem Ec{p:Prop}(h:p:=by grind[World.alloc_heap_new,World.size_alloc]):p:=h
theorem Eo{p:Prop}(h:p:=by simp[iV]):p:=h
theorem E2{p:Prop}(h:p:=by grind[Conc.mem_ofEvents]):p:=h
theorem FC{p:Prop}(h:p:=by grind[Act.put]):p:=h
theorem FF{p:Prop}(h:p:=by simp[pk]):p:=h
theorem FI{p:Prop}(h:p:=by rw[put_defers];exact h.defers):p:=h
theorem IF{p:Prop}(h:p:=by simp_all[H.gQ]):p:=h
theorem FP{p:Prop}(h:p:=by simp[jY];grind):p:=h
theorem JE{p:Prop}(h:p:=by simp[World.cell?,a]):p:=h
theorem Fa{p:Prop}(h:p:=by subst e;exact .ite (fun _=>.pure rfl) (fun _=>.pure rfl)):p:=h
theorem Fi{p:Prop}(h:p:=by grind[World.cell?]):p:=h
theorem Fq{p:Prop}(h:p:=by simp[results,results187,go_sem,hR]):p:=h
theorem Fu{p:Prop}(h:p:=by simp[go_sem,ev]):p:=h
theorem F3{p:Prop}(h:p:=by simp[listed,go_sem,binOp,Op.equal];rw[show Op.maxDepth=9999+1 from rfl,Op.equalIn];simp[go_sem];rfl):p:=h
theorem F8{p:Prop}(h:p:=by have:=g.out;omega):p:=h
theorem K7{p:Prop}(h:p:=by have:=F.out;omega):p:=h
theorem GC{p:Prop}(h:p:=by grind[touchAt_of]):p:=h
theorem GG{p:Prop}(h:p:=by simp[vD]):p:=h
theorem GK{p:Prop}(h:p:=by show n0<=c.heap.size;rw[d.size];exact H.size):p:=h
theorem GR{p:Prop}(h:p:=by cases e):p:=h
theorem JF{p:Prop}(h:p:=by cases f<;>first|exact b|(cases d<;>first|exact b|exact PR a _ _ c _ _ _ _ |grind[PS,PP])):p:=h
theorem GX{p:Prop}(h:p:=by have:=c.out;omega):p:=h
theorem JG{p:Prop}(h:p:=by have:=M.out;omega):p:=h
theorem Gj{p:Prop}(h:p:=by simp[bb,stepG,stepG.exec,Frame.at,base]):p:=h
theorem Gl{p:Prop}(h:p:=by simp_all[Act.eval]):p:=h
theorem Gr{p:Prop}(h:p:=by rw[deaf_old (Nat.le_refl _)];exact hd):p:=h
theorem Gx{p:Prop}(h:p:=by grind[Frame.oper?]):p:=h
theorem G5{p:Prop}(h:p:=by simp[results,results65,go_sem,l]):p:=h
theorem HF{p:Prop}(h:p:=by simp[y7]):p:=h
theorem HK{p:Prop}(h:p:=by simp[wQ]):p:=h
theorem HN{p:Prop}(h:p:=by simp[results,results66,go_sem]):p:=h
theorem HO{p:Prop}(h:p:=by simpa using h):p:=h
theorem BQ{p:Prop}(h:p:=by simp[World.frozen?,g]):p:=h
theorem HV{p:Prop}(h:p:=by grind[Value.ownBlock]):p:=h
theorem JH{p:Prop}(h:p:=by cases a<;>first|rfl|exact c.elim):p:=h
theorem JO{p:Prop}(h:p:=by rw[E.bT.1];simp):p:=h
theorem LC{p:Prop}(h:p:=by intro u A;simp at A;subst A;rfl):p:=h
theorem HX{p:Prop}(h:p:=by grind[maxLen]):p:=h
theorem Hq{p:Prop}(h:p:=by rw[gQ];exact h.size):p:=h
theorem Hx{p:Prop}(h:p:=by have:=f.out.size;simp;omega):p:=h
theorem Hy{p:Prop}(h:p:=by have:=d.out;omega):p:=h
theorem H6{p:Prop}(h:p:=by simp only[List.all_cons,Bool.and_eq_true]at r⊢;exact r):p:=h
theorem IM{p:Prop}(h:p:=by simp only[List.all_cons,Bool.and_eq_true]at l⊢;exact l):p:=h
theorem Ed{p:Prop}(h:p:=by simp[World.cell?,g]):p:=h
theorem IQ{p:Prop}(h:p:=by simp[A6,deafBehind]):p:=h
theorem IR{p:Prop}(h:p:=by rcases d with h|h|h|h|h<;>first|exact h|grind[operands]):p:=h
theorem IS{p:Prop}(h:p:=by grind[bk.word]):p:=h
theorem Ig{p:Prop}(h:p:=by simp[touchAt,Trace.act?]at h):p:=h
theorem LM{p:Prop}(h:p:=by obtain⟨bp,x⟩:=Nr p.out l;exact Nq r.out x (by decide)):p:=h
theorem In{p:Prop}(h:p:=by simp only[List.all_cons,Bool.and_eq_true];exact g):p:=h
theorem Io{p:Prop}(h:p:=by rw[IntKind.wrap_i32];omega):p:=h
theorem Ip{p:Prop}(h:p:=by have:=NA.out;simp;omega):p:=h
theorem Ir{p:Prop}(h:p:=by have:=d.out.size;omega):p:=h
theorem I7{p:Prop}(h:p:=by have:=c.out.size;omega):p:=h
theorem I8{p:Prop}(h:p:=by grind[Trace.g?]):p:=h
theorem I9{p:Prop}(h:p:=by subst e;exact .pure ((m.cells.zeroCells _).rel l)):p:=h
theorem I_{p:Prop}(h:p:=by simp[Frame.finish,n]):p:=h
theorem JD{p:Prop}(h:p:=by rw[Deaf_own,hd,v,o];rfl):p:=h
theorem Jd{p:Prop}(h:p:=by rw[Cl];decide):p:=h
theorem Je{p:Prop}(h:p:=by simp[ux]):p:=h
theorem Jk{p:Prop}(h:p:=by simp[g7]):p:=h
theorem Jq{p:Prop}(h:p:=by grind[Frame.finish]):p:=h
theorem Jr{n:Nat}:n<=n:=Nat.le_refl n
theorem Js{p:Prop}(h:p:=by exact fun _ _ h=>h):p:=h
theorem Jt{α:Sort _}{a:α}{q:Prop}:a=a\/q:=.inl rfl
theorem KI{n:Nat}:n<n+1:=Nat.lt_succ_self n
theorem KJ{p:Prop}(h:p:=by exact fun _ _ _ h=>CS):p:=h
theorem KL{p:Prop}(h:p:=by exact fun _=>Bb):p:=h
theorem KO{p:Prop}(h:p:=by exact fun w k=>⟨k,rfl⟩):p:=h
theorem KT{p:Prop}(h:p:=by exact dx rfl):p:=h
theorem KZ{p:Prop}(h:p:=by exact fJ rfl _):p:=h
theorem K0{α:Sort _}{a:α}{q:Prop}:q\/a=a:=.inr rfl
theorem K3{p:Prop}(h:p:=by exact fun _ _ _ h=>h):p:=h
theorem K4{p:Prop}(h:p:=by exact fun h=>h):p:=h
theorem K5{p:Prop}(h:p:=by exact fun e=>e.elim):p:=h
theorem K6{p:Prop}(h:p:=by exact fun e=>e.app _):p:=h
end Go.Proofs.YtoehnnefaeoeoaaGreat
