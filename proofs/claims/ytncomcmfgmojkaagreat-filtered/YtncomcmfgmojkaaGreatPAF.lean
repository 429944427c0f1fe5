import Derived.Test.YtncomcmfgmojkaaGreatPAD
set_option linter.all false
set_option maxRecDepth 100000
set_option maxHeartbeats 16000000
namespace Go.Proofs.YtncomcmfgmojkaaGreat
open Go.Proofs.Tryz
namespace bN
open RowKit av
section
attribute [local go_sem ↓] Go.wp_at_zero Go.wp_at_succ
attribute [local go_sem ↓] HM HN
theorem aiE(op:Int)(c:op=9\/op=10\/op=11)(l r:Int×Int)(w:aO):
 Calls (ae prog true) 126 #[.int .i64 op,ee l,ee r] w λe w'=>e=.returned (.tuple #[ee (4,0),.bool (l==r&&l != (4,0))])/\Below w.heap.size w w':=by
 obtain⟨lk,ls⟩:=l;obtain⟨b,rs⟩:=r;obtain⟨g,h⟩:=Xr w lk ls b rs;obtain⟨x,u⟩:=Xq w lk ls b rs;by_cases hg:((lk,ls)==(b,rs))=true
 .rcases c with rfl|rfl|rfl;all_goals
   go_enter (a6 (upd:=true) func126 AV),ntmps126
   go_wp2_with fail
   go_region_held3 (λW=>W.cell? ⟨w.heap.size,0,none⟩=some (.int .i64 lk)/\W.cell? ⟨w.heap.size,1,none⟩=some (.int .i64 ls)/\W.cell? ⟨w.heap.size+1,0,none⟩=some (.int .i64 b)/\W.cell? ⟨w.heap.size+1,1,none⟩=some (.int .i64 rs))
    ((go_split_ands;refine⟨?_,?_,?_,?_⟩<;>first|(exact(bo.cj f) _ _ _ Co)|(exact(bo.cj a) _ _ _ Co)|(exact sO (sO Co As) As)|(go_keep;done)))
    (first|(go_at_call 143;refine(tG _).mono ?_;rintro e w1 ⟨rfl,a⟩;have d:=g.drew.call a;obtain⟨i,q,m⟩:=d.all)|(go_at_call 143;refine(tG _).mono ?_;rintro e k ⟨rfl,f⟩;have j:=d.call f;obtain⟨y,B,D⟩:=j.all))
   have n:Below w.heap.size w k:=Below.step f (Below.step a h.drew B1) As;go_wp2_with fail
   exact bodyPost_ret (v:=.tuple #[ee (4,0),.bool ((lk,ls)==(b,rs)&&(lk,ls) != (4,0))]) (by simp[results,results126,go_sem,y,hg]) Y ⟨Y,(n.setCell B1 _).setCell B1 _⟩
 .have o:((lk,ls)==(b,rs))=false:=by simpa using hg
  clear hg;rcases c with rfl|rfl|rfl;all_goals
   go_enter (a6 (upd:=true) func126 AV),ntmps126
   go_wp2_with fail
   go_region_with (go_at_call 143;refine(tG _).mono ?_;rintro e w1 ⟨rfl,a⟩;have d:=g.drew.call a;obtain⟨i,q,m⟩:=d.all;obtain⟨C,t,z⟩:=(x.drew.call a).all;obtain⟨E,s,A⟩:=(u.drew.call a).all)
   all_goals
    have p:Below w.heap.size w w1:=Below.step a h.drew B1;go_wp2_with fail
    exact bodyPost_ret (v:=.tuple #[ee (4,0),.bool ((lk,ls)==(b,rs)&&(lk,ls) != (4,0))]) (by simp[results,results126,go_sem,i,o]) Y ⟨Y,(p.setCell B1 _).setCell B1 _⟩
def aiH(op:Int)(f:op=12\/op=13)(l r:Int×Int)(w:aO):
 Calls (ae prog true) 126 #[.int .i64 op,ee l,ee r] w λe w'=>e=.returned (.tuple #[ee (4,0),.bool (l==(4,0)&&r==(4,0))])/\Below w.heap.size w w':=by
 obtain⟨lk,ls⟩:=l;obtain⟨d,rs⟩:=r;obtain⟨m,n⟩:=Xr w lk ls d rs;obtain⟨J,N⟩:=Xq w lk ls d rs;by_cases hg:((lk,ls)==(4,0))=true
 .rcases f with rfl|rfl;all_goals
   go_enter (a6 (upd:=true) func126 AV),ntmps126
   go_wp2_with fail
   go_region_held3 (λW=>W.cell? ⟨w.heap.size,0,none⟩=some (.int .i64 lk)/\W.cell? ⟨w.heap.size,1,none⟩=some (.int .i64 ls)/\W.cell? ⟨w.heap.size+1,0,none⟩=some (.int .i64 d)/\W.cell? ⟨w.heap.size+1,1,none⟩=some (.int .i64 rs))
    ((go_split_ands;refine⟨?_,?_,?_,?_⟩<;>first|(exact(bo.cj h) _ _ _ Co)|(exact(bo.cj a) _ _ _ Co)|(exact(bo.cj b) _ _ _ Co)|(exact sO (sO Co As) As)|(go_keep;done)))
    (first|(go_at_call 143;refine(tG _).mono ?_;rintro e w1 ⟨rfl,b⟩;have c:=m.drew.call b;obtain⟨x,A,s⟩:=c.all)|(go_at_call 143;refine(tG _).mono ?_;rintro e k ⟨rfl,a⟩;have g:=c.call a;obtain⟨p,y,I⟩:=g.all)|(go_at_call 143;refine(tG _).mono ?_;rintro e q ⟨rfl,h⟩;have j:=g.call h;obtain⟨i,H,F⟩:=j.all))
   have t:Below w.heap.size w q:=Below.step h (Below.step a (Below.step b n.drew B1) As) As;go_wp2_with fail
   exact bodyPost_ret (v:=.tuple #[ee (4,0),.bool ((lk,ls)==(4,0)&&(d,rs)==(4,0))]) (by simp[results,results126,go_sem,i,hg]) Y ⟨Y,(t.setCell B1 _).setCell B1 _⟩
 .have u:((lk,ls)==(4,0))=false:=by simpa using hg
  clear hg;rcases f with rfl|rfl;all_goals
   go_enter (a6 (upd:=true) func126 AV),ntmps126
   go_wp2_with fail
   go_region_with (first|(go_at_call 143;refine(tG _).mono ?_;rintro e w1 ⟨rfl,b⟩;have c:=m.drew.call b;have o:=J.drew.call b;obtain⟨x,A,s⟩:=c.all;obtain⟨M,B,L⟩:=o.all)|(go_at_call 143;refine(tG _).mono ?_;rintro e k ⟨rfl,a⟩;have g:=c.call a;have K:=o.call a;obtain⟨p,y,I⟩:=g.all;obtain⟨E,D,C⟩:=K.all))
   all_goals
    have z:Below w.heap.size w k:=Below.step a (Below.step b n.drew B1) As;go_wp2_with fail
    exact bodyPost_ret (v:=.tuple #[ee (4,0),.bool ((lk,ls)==(4,0)&&(d,rs)==(4,0))]) (by simp[results,results126,go_sem,p,u]) Y ⟨Y,(z.setCell B1 _).setCell B1 _⟩
end
end bN
end Go.Proofs.YtncomcmfgmojkaaGreat
