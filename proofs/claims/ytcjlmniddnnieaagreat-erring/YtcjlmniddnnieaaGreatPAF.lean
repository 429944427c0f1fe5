import Derived.Test.YtcjlmniddnnieaaGreatPAD
set_option linter.all false
set_option maxRecDepth 100000
set_option maxHeartbeats 16000000
namespace Go.Proofs.YtcjlmniddnnieaaGreat
open Tryz
namespace bM
open RowKit au
section
attribute [local go_sem ↓] Go.wp_at_zero Go.wp_at_succ
attribute [local go_sem ↓] IV IW
theorem aln(op:Int)(c:op=9\/op=10\/op=11)(l r:ubj)(w:aH):
 Calls vee 124 #[.I op,fe l,fe r] w λe w'=>e=.returned (.tuple #[fe (4,0),.bool (l==r&&l != (4,0))])/\cy w w':=by
 obtain⟨lk,ls⟩:=l;obtain⟨b,rs⟩:=r;obtain⟨i,j⟩:=Zd w lk ls b rs;obtain⟨h,g⟩:=alj w lk ls b rs;by_cases hg:((lk,ls)==(b,rs))=true
 .rcases c with rfl|rfl|rfl;all_goals
   go_enter (vea func124),ntmps124
   go_wp2_with fail
   go_region_held3 (λW=>W.cell? (.a w.heap.size 0)=some (.I lk)/\W.cell? (.a w.heap.size 1)=some (.I ls)/\W.cell? (.a (w.heap.size+1) 0)=some (.I b)/\W.cell? (.a (w.heap.size+1) 1)=some (.I rs))
    ((go_split_ands;refine⟨?_,?_,?_,?_⟩<;>first|(exact(br.ck f) _ _ _ CN)|(exact(br.ck a) _ _ _ CN)|(exact xe (xe CN AP) AP)|(go_keep;done)))
    (first|(go_at_call 141;refine(RZ _).mono ?_;rintro e w1 ⟨rfl,a⟩;have d:=i.drew.call a;obtain⟨k,q,n⟩:=d.all)|(go_at_call 141;refine(RZ _).mono ?_;rintro e w2 ⟨rfl,f⟩;have x:=d.call f;obtain⟨y,A,u⟩:=x.all))
   have m:cy w w2:=Below.step f (Below.step a j.drew CF) AP;go_wp2_with fail
   exact vai (v:=.tuple #[fe (4,0),.bool ((lk,ls)==(b,rs)&&(lk,ls) != (4,0))]) (by simp[results,results124,go_sem,y,hg]) Y ⟨Y,(m.setCell CF _).setCell CF _⟩
 .have o:((lk,ls)==(b,rs))=false:=by simpa using hg
  clear hg;rcases c with rfl|rfl|rfl;all_goals
   go_enter (vea func124),ntmps124
   go_wp2_with fail
   go_region_with (go_at_call 141;refine(RZ _).mono ?_;rintro e w1 ⟨rfl,a⟩;have d:=i.drew.call a;obtain⟨k,q,n⟩:=d.all;obtain⟨B,t,D⟩:=(h.drew.call a).all;obtain⟨C,s,z⟩:=(g.drew.call a).all)
   all_goals
    have p:cy w w1:=Below.step a j.drew CF;go_wp2_with fail
    exact vai (v:=.tuple #[fe (4,0),.bool ((lk,ls)==(b,rs)&&(lk,ls) != (4,0))]) (by simp[results,results124,go_sem,k,o]) Y ⟨Y,(p.setCell CF _).setCell CF _⟩
