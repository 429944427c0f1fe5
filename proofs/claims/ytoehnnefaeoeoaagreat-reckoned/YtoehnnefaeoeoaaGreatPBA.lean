import Derived.Test.YtoehnnefaeoeoaaGreatPAX
set_option linter.all false
set_option maxRecDepth 100000
set_option maxHeartbeats 16000000
namespace Go.Proofs.YtoehnnefaeoeoaaGreat
open Go.Proofs.Tryz
namespace bD
open Conc ConcM RowKit az bu cZ dD b_ cA gi
variable {Q:Exit->Act->World->Prop}{rest:List Nat}
section
def E0:Nat->Nat:=fun j=>[143,144,145,146,147,148,149,150,14].getD j 0
def VR(aO c1 o1 b7 bi bc S ci i:Nat)(x:Int)(j:Nat):Value:=
 match j with
 |0=>.pointer (some ⟨aO,0,none⟩)
 |1=>.slice (some ⟨c1,o1,none⟩) 4 b7
 |2=>.pointer (some ⟨c1,o1,none⟩)
 |3=>.pointer (some ⟨c1,o1+2,none⟩)
 |4=>.slice (some ⟨bi,bc,none⟩) S ci
 |5=>.int .i64 i
 |6=>.pointer (some ⟨bi,bc+i,none⟩)
 |7=>.int .i64 x
 | _=>.int .i64 x
attribute [local go_sem] VR
theorem ay1(aO c1 b f bi c S ci i:Nat)(x:Int)(ap:Act)(W:World)(hsz:ap.tmps.size=308)(hd:ap.defers=[])(fX:ap.tmps[5]?=some (.pointer (some ⟨aO,0,none⟩)))(fO:ap.tmps[13]?=some (.int .i64 i))(hi:i<S)(y:W.cell? ⟨aO,0,none⟩=some (.slice (some ⟨c1,b,none⟩) 4 f))(C:W.cell? ⟨c1,b+2,none⟩=some (.slice (some ⟨bi,c,none⟩) S ci))(B:W.cell? ⟨bi,c+i,none⟩=some (.int .i64 x))(k:∀a,Pure 308 E0 (VR aO c1 b f bi c S ci i x) ap 9 a->wpOps (ai prog true) (aF Tryz.f3 17) Q rest a W):wpOps (ai prog true) (aF Tryz.f3 17) Q (List.range' 0 9++rest) ap W:=by
 have A:(0:Int)<=(i:Int):=Ay;have z:(i:Int)<(S:Int):=Ay;refine mH (N:=308) (sl:=E0) (V:=VR aO c1 b f bi c S ci i x) (fun i j hi d e=>(by decide+kernel:∀i,i<9->∀j,j<9->E0 i=E0 j->i=j) i hi j d e) (by decide+kernel:∀j,j<9->E0 j<308) hsz hd (fun a j h d=>?_) k;obtain⟨o,g⟩:∃o,(aF Tryz.f3 17)[j]?=some o:=by have:(aF Tryz.f3 17).size=9:=AS;simp_all
 have l:=ju g;have u:0<j->a.tmps[143]?=_:=h.val 0;have t:1<j->a.tmps[144]?=_:=h.val 1;have s:2<j->a.tmps[145]?=_:=h.val 2;have r:3<j->a.tmps[146]?=_:=h.val 3;have q:4<j->a.tmps[147]?=_:=h.val 4;have p:5<j->a.tmps[148]?=_:=h.val 5;have n:6<j->a.tmps[149]?=_:=h.val 6;have m:7<j->a.tmps[150]?=_:=h.val 7;match j,d with
 |0,_ |1,_ |2,_ |3,_ |4,_ |5,_ |6,_ |7,_ |8,_=>
  obtain rfl:=Option.some.inj l;try have w:=(h.base 5 (by unfold E0;decide)).trans fX
  try have v:=(h.base 13 (by unfold E0;decide)).trans fO
  exact fN g KZ rfl (w1:=W) BD ⟨rfl,rfl⟩
def E3:Nat->Nat:=fun j=>[151,152,153,154,155,156,157,158,15].getD j 0
def VS(aO c1 o1 b7 bi bc S ci i:Nat)(x:Int)(j:Nat):Value:=
 match j with
 |0=>.pointer (some ⟨aO,0,none⟩)
 |1=>.slice (some ⟨c1,o1,none⟩) 4 b7
 |2=>.pointer (some ⟨c1,o1+5,none⟩)
 |3=>.pointer (some ⟨c1,o1+5+2,none⟩)
 |4=>.slice (some ⟨bi,bc,none⟩) S ci
 |5=>.int .i64 i
 |6=>.pointer (some ⟨bi,bc+i,none⟩)
 |7=>.int .i64 x
 | _=>.int .i64 x
attribute [local go_sem] VS
theorem ay2(aO c1 b f bi c S ci i:Nat)(x:Int)(ap:Act)(W:World)(hsz:ap.tmps.size=308)(hd:ap.defers=[])(fX:ap.tmps[5]?=some (.pointer (some ⟨aO,0,none⟩)))(fO:ap.tmps[13]?=some (.int .i64 i))(hi:i<S)(y:W.cell? ⟨aO,0,none⟩=some (.slice (some ⟨c1,b,none⟩) 4 f))(C:W.cell? ⟨c1,b+5+2,none⟩=some (.slice (some ⟨bi,c,none⟩) S ci))(B:W.cell? ⟨bi,c+i,none⟩=some (.int .i64 x))(k:∀a,Pure 308 E3 (VS aO c1 b f bi c S ci i x) ap 9 a->wpOps (ai prog true) (aF Tryz.f3 18) Q rest a W):wpOps (ai prog true) (aF Tryz.f3 18) Q (List.range' 0 9++rest) ap W:=by
 have A:(0:Int)<=(i:Int):=Ay;have z:(i:Int)<(S:Int):=Ay;refine mH (N:=308) (sl:=E3) (V:=VS aO c1 b f bi c S ci i x) (fun i j hi d e=>(by decide+kernel:∀i,i<9->∀j,j<9->E3 i=E3 j->i=j) i hi j d e) (by decide+kernel:∀j,j<9->E3 j<308) hsz hd (fun a j h d=>?_) k;obtain⟨o,g⟩:∃o,(aF Tryz.f3 18)[j]?=some o:=by have:(aF Tryz.f3 18).size=9:=AS;simp_all
 have l:=ju g;have p:0<j->a.tmps[151]?=_:=h.val 0;have n:1<j->a.tmps[152]?=_:=h.val 1;have m:2<j->a.tmps[153]?=_:=h.val 2;have u:3<j->a.tmps[154]?=_:=h.val 3;have t:4<j->a.tmps[155]?=_:=h.val 4;have s:5<j->a.tmps[156]?=_:=h.val 5;have r:6<j->a.tmps[157]?=_:=h.val 6;have q:7<j->a.tmps[158]?=_:=h.val 7;match j,d with
 |0,_ |1,_ |2,_ |3,_ |4,_ |5,_ |6,_ |7,_ |8,_=>
  obtain rfl:=Option.some.inj l;try have w:=(h.base 5 (by unfold E3;decide)).trans fX
  try have v:=(h.base 13 (by unfold E3;decide)).trans fO
  exact fN g KZ rfl (w1:=W) BD ⟨rfl,rfl⟩
def E4:Nat->Nat:=fun j=>[159,160,161,162,163,164,165,166,16].getD j 0
def VT(aO c1 o1 b7 bi bc S ci i:Nat)(x:Int)(j:Nat):Value:=
 match j with
 |0=>.pointer (some ⟨aO,0,none⟩)
 |1=>.slice (some ⟨c1,o1,none⟩) 4 b7
 |2=>.pointer (some ⟨c1,o1+10,none⟩)
 |3=>.pointer (some ⟨c1,o1+10+2,none⟩)
 |4=>.slice (some ⟨bi,bc,none⟩) S ci
 |5=>.int .i64 i
 |6=>.pointer (some ⟨bi,bc+i,none⟩)
 |7=>.int .i64 x
 | _=>.int .i64 x
attribute [local go_sem] VT
theorem ay3(aO c1 b f bi c S ci i:Nat)(x:Int)(ap:Act)(W:World)(hsz:ap.tmps.size=308)(hd:ap.defers=[])(fX:ap.tmps[5]?=some (.pointer (some ⟨aO,0,none⟩)))(fO:ap.tmps[13]?=some (.int .i64 i))(hi:i<S)(y:W.cell? ⟨aO,0,none⟩=some (.slice (some ⟨c1,b,none⟩) 4 f))(C:W.cell? ⟨c1,b+10+2,none⟩=some (.slice (some ⟨bi,c,none⟩) S ci))(B:W.cell? ⟨bi,c+i,none⟩=some (.int .i64 x))(k:∀a,Pure 308 E4 (VT aO c1 b f bi c S ci i x) ap 9 a->wpOps (ai prog true) (aF Tryz.f3 19) Q rest a W):wpOps (ai prog true) (aF Tryz.f3 19) Q (List.range' 0 9++rest) ap W:=by
 have A:(0:Int)<=(i:Int):=Ay;have z:(i:Int)<(S:Int):=Ay;refine mH (N:=308) (sl:=E4) (V:=VT aO c1 b f bi c S ci i x) (fun i j hi d e=>(by decide+kernel:∀i,i<9->∀j,j<9->E4 i=E4 j->i=j) i hi j d e) (by decide+kernel:∀j,j<9->E4 j<308) hsz hd (fun a j h d=>?_) k;obtain⟨o,g⟩:∃o,(aF Tryz.f3 19)[j]?=some o:=by have:(aF Tryz.f3 19).size=9:=AS;simp_all
 have l:=ju g;have u:0<j->a.tmps[159]?=_:=h.val 0;have t:1<j->a.tmps[160]?=_:=h.val 1;have s:2<j->a.tmps[161]?=_:=h.val 2;have r:3<j->a.tmps[162]?=_:=h.val 3;have q:4<j->a.tmps[163]?=_:=h.val 4;have p:5<j->a.tmps[164]?=_:=h.val 5;have n:6<j->a.tmps[165]?=_:=h.val 6;have m:7<j->a.tmps[166]?=_:=h.val 7;match j,d with
 |0,_ |1,_ |2,_ |3,_ |4,_ |5,_ |6,_ |7,_ |8,_=>
  obtain rfl:=Option.some.inj l;try have w:=(h.base 5 (by unfold E4;decide)).trans fX
  try have v:=(h.base 13 (by unfold E4;decide)).trans fO
  exact fN g KZ rfl (w1:=W) BD ⟨rfl,rfl⟩
def E5:Nat->Nat:=fun j=>[167,168,169,170,171,172,173,174,17].getD j 0
def VU(aO c1 o1 b7 bi bc S ci i:Nat)(x:Bool)(j:Nat):Value:=
 match j with
 |0=>.pointer (some ⟨aO,0,none⟩)
 |1=>.slice (some ⟨c1,o1,none⟩) 4 b7
 |2=>.pointer (some ⟨c1,o1,none⟩)
 |3=>.pointer (some ⟨c1,o1+4,none⟩)
 |4=>.slice (some ⟨bi,bc,none⟩) S ci
 |5=>.int .i64 i
 |6=>.pointer (some ⟨bi,bc+i,none⟩)
 |7=>.bool x
 | _=>.bool x
attribute [local go_sem] VU
theorem ay4(aO c1 b f bi c S ci i:Nat)(x:Bool)(ap:Act)(W:World)(hsz:ap.tmps.size=308)(hd:ap.defers=[])(fX:ap.tmps[5]?=some (.pointer (some ⟨aO,0,none⟩)))(fO:ap.tmps[13]?=some (.int .i64 i))(hi:i<S)(y:W.cell? ⟨aO,0,none⟩=some (.slice (some ⟨c1,b,none⟩) 4 f))(C:W.cell? ⟨c1,b+4,none⟩=some (.slice (some ⟨bi,c,none⟩) S ci))(B:W.cell? ⟨bi,c+i,none⟩=some (.bool x))(k:∀a,Pure 308 E5 (VU aO c1 b f bi c S ci i x) ap 9 a->wpOps (ai prog true) (aF Tryz.f3 20) Q rest a W):wpOps (ai prog true) (aF Tryz.f3 20) Q (List.range' 0 9++rest) ap W:=by
 have A:(0:Int)<=(i:Int):=Ay;have z:(i:Int)<(S:Int):=Ay;refine mH (N:=308) (sl:=E5) (V:=VU aO c1 b f bi c S ci i x) (fun i j hi d e=>(by decide+kernel:∀i,i<9->∀j,j<9->E5 i=E5 j->i=j) i hi j d e) (by decide+kernel:∀j,j<9->E5 j<308) hsz hd (fun a j h d=>?_) k;obtain⟨o,g⟩:∃o,(aF Tryz.f3 20)[j]?=some o:=by have:(aF Tryz.f3 20).size=9:=AS;simp_all
 have l:=ju g;have u:0<j->a.tmps[167]?=_:=h.val 0;have t:1<j->a.tmps[168]?=_:=h.val 1;have s:2<j->a.tmps[169]?=_:=h.val 2;have r:3<j->a.tmps[170]?=_:=h.val 3;have q:4<j->a.tmps[171]?=_:=h.val 4;have p:5<j->a.tmps[172]?=_:=h.val 5;have n:6<j->a.tmps[173]?=_:=h.val 6;have m:7<j->a.tmps[174]?=_:=h.val 7;match j,d with
 |0,_ |1,_ |2,_ |3,_ |4,_ |5,_ |6,_ |7,_ |8,_=>
  obtain rfl:=Option.some.inj l;try have w:=(h.base 5 (by unfold E5;decide)).trans fX
  try have v:=(h.base 13 (by unfold E5;decide)).trans fO
  exact fN g KZ rfl (w1:=W) BD ⟨rfl,rfl⟩
def E6:Nat->Nat:=fun j=>[175,176,177,178,179,180,181,182,18].getD j 0
def VV(aO c1 o1 b7 bi bc S ci i:Nat)(x:Bool)(j:Nat):Value:=
 match j with
 |0=>.pointer (some ⟨aO,0,none⟩)
 |1=>.slice (some ⟨c1,o1,none⟩) 4 b7
 |2=>.pointer (some ⟨c1,o1+5,none⟩)
 |3=>.pointer (some ⟨c1,o1+5+4,none⟩)
 |4=>.slice (some ⟨bi,bc,none⟩) S ci
 |5=>.int .i64 i
 |6=>.pointer (some ⟨bi,bc+i,none⟩)
 |7=>.bool x
 | _=>.bool x
attribute [local go_sem] VV
theorem ay5(aO c1 b f bi c S ci i:Nat)(x:Bool)(ap:Act)(W:World)(hsz:ap.tmps.size=308)(hd:ap.defers=[])(fX:ap.tmps[5]?=some (.pointer (some ⟨aO,0,none⟩)))(fO:ap.tmps[13]?=some (.int .i64 i))(hi:i<S)(y:W.cell? ⟨aO,0,none⟩=some (.slice (some ⟨c1,b,none⟩) 4 f))(C:W.cell? ⟨c1,b+5+4,none⟩=some (.slice (some ⟨bi,c,none⟩) S ci))(B:W.cell? ⟨bi,c+i,none⟩=some (.bool x))(k:∀a,Pure 308 E6 (VV aO c1 b f bi c S ci i x) ap 9 a->wpOps (ai prog true) (aF Tryz.f3 21) Q rest a W):wpOps (ai prog true) (aF Tryz.f3 21) Q (List.range' 0 9++rest) ap W:=by
 have A:(0:Int)<=(i:Int):=Ay;have z:(i:Int)<(S:Int):=Ay;refine mH (N:=308) (sl:=E6) (V:=VV aO c1 b f bi c S ci i x) (fun i j hi d e=>(by decide+kernel:∀i,i<9->∀j,j<9->E6 i=E6 j->i=j) i hi j d e) (by decide+kernel:∀j,j<9->E6 j<308) hsz hd (fun a j h d=>?_) k;obtain⟨o,g⟩:∃o,(aF Tryz.f3 21)[j]?=some o:=by have:(aF Tryz.f3 21).size=9:=AS;simp_all
 have l:=ju g;have u:0<j->a.tmps[175]?=_:=h.val 0;have t:1<j->a.tmps[176]?=_:=h.val 1;have s:2<j->a.tmps[177]?=_:=h.val 2;have r:3<j->a.tmps[178]?=_:=h.val 3;have q:4<j->a.tmps[179]?=_:=h.val 4;have p:5<j->a.tmps[180]?=_:=h.val 5;have n:6<j->a.tmps[181]?=_:=h.val 6;have m:7<j->a.tmps[182]?=_:=h.val 7;match j,d with
 |0,_ |1,_ |2,_ |3,_ |4,_ |5,_ |6,_ |7,_ |8,_=>
  obtain rfl:=Option.some.inj l;try have w:=(h.base 5 (by unfold E6;decide)).trans fX
  try have v:=(h.base 13 (by unfold E6;decide)).trans fO
  exact fN g KZ rfl (w1:=W) BD ⟨rfl,rfl⟩
def E7:Nat->Nat:=fun j=>[183,184,185,186,187,188,189,190,19].getD j 0
def VW(aO c1 o1 b7 bi bc S ci i:Nat)(x:Bool)(j:Nat):Value:=
 match j with
 |0=>.pointer (some ⟨aO,0,none⟩)
 |1=>.slice (some ⟨c1,o1,none⟩) 4 b7
 |2=>.pointer (some ⟨c1,o1+10,none⟩)
 |3=>.pointer (some ⟨c1,o1+10+4,none⟩)
 |4=>.slice (some ⟨bi,bc,none⟩) S ci
 |5=>.int .i64 i
 |6=>.pointer (some ⟨bi,bc+i,none⟩)
 |7=>.bool x
 | _=>.bool x
attribute [local go_sem] VW
theorem ay6(aO c1 b f bi c S ci i:Nat)(x:Bool)(ap:Act)(W:World)(hsz:ap.tmps.size=308)(hd:ap.defers=[])(fX:ap.tmps[5]?=some (.pointer (some ⟨aO,0,none⟩)))(fO:ap.tmps[13]?=some (.int .i64 i))(hi:i<S)(y:W.cell? ⟨aO,0,none⟩=some (.slice (some ⟨c1,b,none⟩) 4 f))(C:W.cell? ⟨c1,b+10+4,none⟩=some (.slice (some ⟨bi,c,none⟩) S ci))(B:W.cell? ⟨bi,c+i,none⟩=some (.bool x))(k:∀a,Pure 308 E7 (VW aO c1 b f bi c S ci i x) ap 9 a->wpOps (ai prog true) (aF Tryz.f3 22) Q rest a W):wpOps (ai prog true) (aF Tryz.f3 22) Q (List.range' 0 9++rest) ap W:=by
 have A:(0:Int)<=(i:Int):=Ay;have z:(i:Int)<(S:Int):=Ay;refine mH (N:=308) (sl:=E7) (V:=VW aO c1 b f bi c S ci i x) (fun i j hi d e=>(by decide+kernel:∀i,i<9->∀j,j<9->E7 i=E7 j->i=j) i hi j d e) (by decide+kernel:∀j,j<9->E7 j<308) hsz hd (fun a j h d=>?_) k;obtain⟨o,g⟩:∃o,(aF Tryz.f3 22)[j]?=some o:=by have:(aF Tryz.f3 22).size=9:=AS;simp_all
 have l:=ju g;have u:0<j->a.tmps[183]?=_:=h.val 0;have t:1<j->a.tmps[184]?=_:=h.val 1;have s:2<j->a.tmps[185]?=_:=h.val 2;have r:3<j->a.tmps[186]?=_:=h.val 3;have q:4<j->a.tmps[187]?=_:=h.val 4;have p:5<j->a.tmps[188]?=_:=h.val 5;have n:6<j->a.tmps[189]?=_:=h.val 6;have m:7<j->a.tmps[190]?=_:=h.val 7;match j,d with
 |0,_ |1,_ |2,_ |3,_ |4,_ |5,_ |6,_ |7,_ |8,_=>
  obtain rfl:=Option.some.inj l;try have w:=(h.base 5 (by unfold E7;decide)).trans fX
  try have v:=(h.base 13 (by unfold E7;decide)).trans fO
  exact fN g KZ rfl (w1:=W) BD ⟨rfl,rfl⟩
def kS:Nat->Nat:=fun j=>[191,192,193,194,195,196,197,198,199,200,201,202,203,204,205,206,207,208,209,210,211,212,213].getD j 0
def VX(aO c1 o1 b7 bi bc S ci i:Nat)(q r mb:Bool)(j:Nat):Value:=
 match j with
 |0=>.bool true
 |1=>.bool true
 |2=>undef
 |3=>.bool true
 |4=>.bool true
 |5=>.bool true
 |6=>undef
 |7=>.bool true
 |8=>.bool true
 |9=>.bool true
 |10=>undef
 |11=>.bool true
 |12=>.bool r
 |13=>.bool r
 |14=>.bool r
 |15=>.pointer (some ⟨aO,0,none⟩)
 |16=>.slice (some ⟨c1,o1,none⟩) 4 b7
 |17=>.pointer (some ⟨c1,o1+15,none⟩)
 |18=>.pointer (some ⟨c1,o1+15+4,none⟩)
 |19=>.slice (some ⟨bi,bc,none⟩) S ci
 |20=>.int .i64 i
 |21=>.pointer (some ⟨bi,bc+i,none⟩)
 | _=>.bool mb
attribute [local go_sem] VX
theorem ay7(aO c1 f m bi g S ci i:Nat)(q r l:Bool)(ap:Act)(W:World)(hsz:ap.tmps.size=308)(hd:ap.defers=[])(fX:ap.tmps[5]?=some (.pointer (some ⟨aO,0,none⟩)))(fO:ap.tmps[13]?=some (.int .i64 i))(K:ap.tmps[17]?=some (.bool true))(p:ap.tmps[18]?=some (.bool q))(n:ap.tmps[19]?=some (.bool r))(hi:i<S)(R:W.cell? ⟨aO,0,none⟩=some (.slice (some ⟨c1,f,none⟩) 4 m))(Z:W.cell? ⟨c1,f+15+4,none⟩=some (.slice (some ⟨bi,g,none⟩) S ci))(Y:W.cell? ⟨bi,g+i,none⟩=some (.bool l))(s:∀a,Pure 308 kS (VX aO c1 f m bi g S ci i q r l) ap 23 a->wpOps (ai prog true) (aF Tryz.f3 23) Q rest a W):wpOps (ai prog true) (aF Tryz.f3 23) Q (List.range' 0 23++rest) ap W:=by
 have U:(0:Int)<=(i:Int):=Ay;have T:(i:Int)<(S:Int):=Ay;refine mH (N:=308) (sl:=kS) (V:=VX aO c1 f m bi g S ci i q r l) (fun i j hi d e=>(by decide+kernel:∀i,i<23->∀j,j<23->kS i=kS j->i=j) i hi j d e) (by decide+kernel:∀j,j<23->kS j<308) hsz hd (fun a j h d=>?_) s;obtain⟨o,c⟩:∃o,(aF Tryz.f3 23)[j]?=some o:=by have:(aF Tryz.f3 23).size=25:=AS;exact⟨_,Array.getElem?_eq_getElem Ay⟩
 have k:=ju c;have J:0<j->a.tmps[191]?=_:=h.val 0;have I:1<j->a.tmps[192]?=_:=h.val 1;have H:2<j->a.tmps[193]?=_:=h.val 2;have F:4<j->a.tmps[195]?=_:=h.val 4;have E:5<j->a.tmps[196]?=_:=h.val 5;have D:6<j->a.tmps[197]?=_:=h.val 6;have C:8<j->a.tmps[199]?=_:=h.val 8;have B:9<j->a.tmps[200]?=_:=h.val 9;have A:10<j->a.tmps[201]?=_:=h.val 10;have z:15<j->a.tmps[206]?=_:=h.val 15;have y:16<j->a.tmps[207]?=_:=h.val 16;have x:17<j->a.tmps[208]?=_:=h.val 17;have w:18<j->a.tmps[209]?=_:=h.val 18;have v:19<j->a.tmps[210]?=_:=h.val 19;have u:20<j->a.tmps[211]?=_:=h.val 20;have t:21<j->a.tmps[212]?=_:=h.val 21;match j,d with
 |2,_=>obtain rfl:=Option.some.inj k;have M:=(h.base 18 (by grind[kS])).trans p;have b:a.tmps[192]?=some (.bool true):=h.val 1 AW;exact y8 c ((vE rfl BB b).trans rfl) rfl ⟨rfl,rfl⟩
 |6,_=>obtain rfl:=Option.some.inj k;have M:=(h.base 18 (by grind[kS])).trans p;have b:a.tmps[196]?=some (.bool true):=h.val 5 AW;exact y8 c ((vE rfl BB b).trans rfl) rfl ⟨rfl,rfl⟩
 |10,_=>obtain rfl:=Option.some.inj k;have L:=(h.base 19 DK).trans n;have b:a.tmps[200]?=some (.bool true):=h.val 9 AW;exact y8 c ((vE rfl BB b).trans rfl) rfl ⟨rfl,rfl⟩
 |0,_ |1,_ |3,_ |4,_ |5,_ |7,_ |8,_ |9,_ |11,_ |12,_ |13,_ |14,_ |15,_ |16,_ |17,_ |18,_ |19,_ |20,_ |21,_ |22,_=>
  obtain rfl:=Option.some.inj k;try have X:=(h.base 17 DK).trans K
  try have L:=(h.base 19 DK).trans n
  try have P:=(h.base 5 DK).trans fX
  try have O:=(h.base 13 DK).trans fO
  exact fN c KZ rfl (w1:=W) BD ⟨rfl,rfl⟩
 |j+23,d=>exact absurd d Ay
def VZ(aO c1 o1 b7 bi bc S ci i:Nat)(q r mb:Bool)(j:Nat):Value:=
 match j with
 |0=>.bool false
 |1=>.bool false
 |2=>.bool q
 |3=>.bool q
 |4=>.bool false
 |5=>.bool false
 |6=>.bool q
 |7=>.bool q
 |8=>.bool false
 |9=>.bool false
 |10=>.bool r
 |11=>.bool r
 |12=>.bool r
 |13=>.bool r
 |14=>.bool r
 |15=>.pointer (some ⟨aO,0,none⟩)
 |16=>.slice (some ⟨c1,o1,none⟩) 4 b7
 |17=>.pointer (some ⟨c1,o1+15,none⟩)
 |18=>.pointer (some ⟨c1,o1+15+4,none⟩)
 |19=>.slice (some ⟨bi,bc,none⟩) S ci
 |20=>.int .i64 i
 |21=>.pointer (some ⟨bi,bc+i,none⟩)
 | _=>.bool mb
attribute [local go_sem] VZ
theorem azn(aO c1 f m bi g S ci i:Nat)(q r l:Bool)(ap:Act)(W:World)(hsz:ap.tmps.size=308)(hd:ap.defers=[])(fX:ap.tmps[5]?=some (.pointer (some ⟨aO,0,none⟩)))(fO:ap.tmps[13]?=some (.int .i64 i))(L:ap.tmps[17]?=some (.bool false))(p:ap.tmps[18]?=some (.bool q))(n:ap.tmps[19]?=some (.bool r))(hi:i<S)(T:W.cell? ⟨aO,0,none⟩=some (.slice (some ⟨c1,f,none⟩) 4 m))(E1:W.cell? ⟨c1,f+15+4,none⟩=some (.slice (some ⟨bi,g,none⟩) S ci))(Z:W.cell? ⟨bi,g+i,none⟩=some (.bool l))(s:∀a,Pure 308 kS (VZ aO c1 f m bi g S ci i q r l) ap 23 a->wpOps (ai prog true) (aF Tryz.f3 23) Q rest a W):wpOps (ai prog true) (aF Tryz.f3 23) Q (List.range' 0 23++rest) ap W:=by
 have X:(0:Int)<=(i:Int):=Ay;have U:(i:Int)<(S:Int):=Ay;refine mH (N:=308) (sl:=kS) (V:=VZ aO c1 f m bi g S ci i q r l) (fun i j hi d e=>(by decide+kernel:∀i,i<23->∀j,j<23->kS i=kS j->i=j) i hi j d e) (by decide+kernel:∀j,j<23->kS j<308) hsz hd (fun a j h d=>?_) s;obtain⟨o,c⟩:∃o,(aF Tryz.f3 23)[j]?=some o:=by have:(aF Tryz.f3 23).size=25:=AS;exact⟨_,Array.getElem?_eq_getElem Ay⟩
 have k:=ju c;have K:0<j->a.tmps[191]?=_:=h.val 0;have J:1<j->a.tmps[192]?=_:=h.val 1;have I:2<j->a.tmps[193]?=_:=h.val 2;have H:4<j->a.tmps[195]?=_:=h.val 4;have F:5<j->a.tmps[196]?=_:=h.val 5;have E:6<j->a.tmps[197]?=_:=h.val 6;have D:8<j->a.tmps[199]?=_:=h.val 8;have C:9<j->a.tmps[200]?=_:=h.val 9;have B:10<j->a.tmps[201]?=_:=h.val 10;have A:15<j->a.tmps[206]?=_:=h.val 15;have z:16<j->a.tmps[207]?=_:=h.val 16;have y:17<j->a.tmps[208]?=_:=h.val 17;have x:18<j->a.tmps[209]?=_:=h.val 18;have w:19<j->a.tmps[210]?=_:=h.val 19;have u:20<j->a.tmps[211]?=_:=h.val 20;have t:21<j->a.tmps[212]?=_:=h.val 21;match j,d with
 |2,_=>obtain rfl:=Option.some.inj k;have O:=(h.base 18 (by grind[kS])).trans p;have b:a.tmps[192]?=some (.bool false):=h.val 1 AW;exact fN c ((vE rfl BB b).trans rfl) rfl (v:=.bool q) (w1:=W) BD ⟨rfl,rfl⟩
 |6,_=>obtain rfl:=Option.some.inj k;have O:=(h.base 18 (by grind[kS])).trans p;have b:a.tmps[196]?=some (.bool false):=h.val 5 AW;exact fN c ((vE rfl BB b).trans rfl) rfl (v:=.bool q) (w1:=W) BD ⟨rfl,rfl⟩
 |10,_=>obtain rfl:=Option.some.inj k;have M:=(h.base 19 DK).trans n;have b:a.tmps[200]?=some (.bool false):=h.val 9 AW;exact fN c ((vE rfl BB b).trans rfl) rfl (v:=.bool r) (w1:=W) BD ⟨rfl,rfl⟩
 |0,_ |1,_ |3,_ |4,_ |5,_ |7,_ |8,_ |9,_ |11,_ |12,_ |13,_ |14,_ |15,_ |16,_ |17,_ |18,_ |19,_ |20,_ |21,_ |22,_=>
  obtain rfl:=Option.some.inj k;try have Y:=(h.base 17 DK).trans L
  try have M:=(h.base 19 DK).trans n
  try have R:=(h.base 5 DK).trans fX
  try have P:=(h.base 13 DK).trans fO
  exact fN c KZ rfl (w1:=W) BD ⟨rfl,rfl⟩
 |j+23,d=>exact absurd d Ay
def Cp:Nat->Nat:=fun j=>[215,216,217,218,219,220,221,222,223,224,225,226,227,228,229].getD j 0
def V0(x y z:Int)(j:Nat):Value:=
 match j with
 |0=>.int .i64 (x)
 |1=>.int .i64 (y)
 |2=>.int .i64 (x+y)
 |3=>.int .i64 (x)
 |4=>.int .i64 (y)
 |5=>.int .i64 (x-y)
 |6=>.int .i64 (x)
 |7=>.int .i64 (z)
 |8=>.int .i64 (x*z)
 |9=>.int .i64 (z)
 |10=>.int .i64 (z)
 |11=>.int .i64 (z*z)
 |12=>.int .i64 (z)
 |13=>.int .i64 (z)
 | _=>.int .i64 (z.tdiv 100)
attribute [local go_sem] V0
theorem azo(x y z:Int)(ap:Act)(W:World)(hsz:ap.tmps.size=308)(hd:ap.defers=[])(D:ap.tmps[14]?=some (.int .i64 x))(f:ap.tmps[15]?=some (.int .i64 y))(d:ap.tmps[16]?=some (.int .i64 z))(L:0<=x/\x<=3)(K: -1000<=y/\y<=1000)(J: -1000<=z/\z<=1000)(k:∀a,Pure 308 Cp (V0 x y z) ap 15 a->wpOps (ai prog true) (aF Tryz.f3 24) Q rest a W):wpOps (ai prog true) (aF Tryz.f3 24) Q (List.range' 0 15++rest) ap W:=by
 have w1:IntKind.i64.wrap (x+y)=x+y:=Ct;have H:IntKind.i64.wrap (x-y)=x-y:=Ct;have m1:=OA (a:=x) (b:=z) (A:=3) (B:=1000) Ay Ay;have I:=OA (a:=z) (b:=z) (A:=1000) (B:=1000) Ay Ay;have F:IntKind.i64.wrap (x*z)=x*z:=Ct;have E:IntKind.i64.wrap (z*z)=z*z:=Ct;have O: -9223372036854775808<=z:=Ay;have M:z<=9223372036854775807:=Ay;have lz:IntKind.i64.wrap (z.tdiv 100)=z.tdiv 100:=wrap_i64_tdiv z 100 Ay Ay Ay;refine mH (N:=308) (sl:=Cp) (V:=V0 x y z) (fun i j hi c e=>(by decide+kernel:∀i,i<15->∀j,j<15->Cp i=Cp j->i=j) i hi j c e) (by decide+kernel:∀j,j<15->Cp j<308) hsz hd (fun a j h c=>?_) k;obtain⟨o,g⟩:∃o,(aF Tryz.f3 24)[j]?=some o:=by have:(aF Tryz.f3 24).size=17:=AS;exact⟨_,Array.getElem?_eq_getElem Ay⟩
 have n:=ju g;have C:0<j->a.tmps[215]?=_:=h.val 0;have w:1<j->a.tmps[216]?=_:=h.val 1;have v:3<j->a.tmps[218]?=_:=h.val 3;have u:4<j->a.tmps[219]?=_:=h.val 4;have t:6<j->a.tmps[221]?=_:=h.val 6;have s:7<j->a.tmps[222]?=_:=h.val 7;have r:9<j->a.tmps[224]?=_:=h.val 9;have q:10<j->a.tmps[225]?=_:=h.val 10;have p:13<j->a.tmps[228]?=_:=h.val 13;match j,c with
 |0,_ |1,_ |2,_ |3,_ |4,_ |5,_ |6,_ |7,_ |8,_ |9,_ |10,_ |11,_ |12,_ |13,_ |14,_=>
  obtain rfl:=Option.some.inj n;try have P:=(h.base 14 (by unfold Cp;decide)).trans D
  try have m:=(h.base 15 (by unfold Cp;decide)).trans f
  try have l:=(h.base 16 (by unfold Cp;decide)).trans d
  exact fN g KZ rfl (w1:=W) BD ⟨rfl,rfl⟩
 |j+15,c=>exact absurd c Ay
end
end bD
end Go.Proofs.YtoehnnefaeoeoaaGreat
