/-
  The order of IDs: cm. Conditions as told.
-/
import Derived.Test.YtghlpefopidlaaaGreatLQ008
set_option maxRecDepth 100000
set_option maxHeartbeats 64000000
open _root_.Bool renaming and_eq_true->O,or_eq_true->Q,true->ah
open Go.IntKind renaming i64->K
open Go.Lib renaming hid->D
open Go.Obj renaming cells->U
open Go.Proofs.Tryz renaming prog->L,func107->V,func67->Z
open Go.Value renaming int->J
namespace Go.Proofs.YtghlpefopidlaaaGreat.Av
open Go.RowKit Go.Sort Rw YtghlpefopidlaaaGreat.Nm Pr Bk
def qP (a b:Int):Int:=if a<b then -1 else if b<a then 1 else 0
def VI (a b:Int):Int:=if a=0 then b else a
theorem yZ (a:Int) (w:World):Calls L 128 #[J K a] w fun e w'=>e=.returned (.bool false)/\w'=w:=by
 go_enter Tryz.func128,Tryz.ntmps128;go_wp2;go_ret;exact⟨by simp,rfl⟩
theorem qW (a b:Int) (w:World):Calls L 67 #[J K a,J K b] w fun e w'=>e=.returned (J K (qP a b))/\w'=w:=by
 have T:=D (show a<b->qP a b=-1 from fun h=>by unfold qP; rw [if_pos h]);have a3:=D (show ¬ a<b->b<a->qP a b=1 from fun h h2=>by unfold qP; rw [if_neg h,if_pos h2]);have a0:=D (show ¬ a<b->¬ b<a->qP a b=0 from fun h h2=>by unfold qP; rw [if_neg h,if_neg h2]);generalize qP a b=r at *;go_enter Z,Tryz.ntmps67;by_cases h1:a<b
 ·have E:=T.out h1;clear T a3 a0;subst E;go_wp2_with (go_at_call 128; refine (yZ _ _).mono ?_; rintro e w' ⟨rfl,rfl⟩);go_ret;exact⟨rfl,rfl⟩
 ·by_cases h2:b<a
  ·have E:=a3.out h1 h2;clear T a3 a0;subst E;go_wp2_with (go_at_call 128; refine (yZ _ _).mono ?_; rintro e w' ⟨rfl,rfl⟩);go_ret;exact⟨rfl,rfl⟩
  ·have E:=a0.out h1 h2;clear T a3 a0;subst E;go_wp2_with (go_at_call 128; refine (yZ _ _).mono ?_; rintro e w' ⟨rfl,rfl⟩);go_ret;exact⟨rfl,rfl⟩
theorem ahD (g:Nat) (cap:Nat) (a b:Int) (w:World) (p0:w.cell? ⟨g,0,none⟩=some (J K a)) (q0:w.cell? ⟨g,1,none⟩=some (J K b)):Calls L 107 #[.slice (some ⟨g,0,none⟩) 2 cap] w fun e w'=>e=.returned (J K (VI a b))/\w'=w:=by
 have a3:=D (show a≠0->VI a b=a from fun h=>by unfold VI; rw [if_neg h]);have T:=D (show a=0->VI a b=b from fun h=>by unfold VI; rw [if_pos h]);generalize VI a b=r at *;go_enter V,Tryz.ntmps107;go_wp2
 go_loopw [8] (fun i wr=>∃ k:Nat,k<=2/\i=J K k/\RowKit.Hid (wr=w)/\(0<k->a=0)/\(1<k->b=0)) (fun i _=>2-(intOf i).toNat)
 case atStart=>exact⟨0,by omega,rfl,by first | exact D rfl | exact D trivial,fun h=>by omega,fun h=>by omega⟩
 case round =>
  obtain⟨k,hk,rfl,hw,ha,hb⟩:=hrel;obtain rfl:=hw.out;clear hw;by_cases hlt:k<2
  ·obtain⟨x,hx,hx0,hx1⟩:∃ x:Int,wr.cell? ⟨g,k,none⟩=some (J K x)/\(k=0->x=a)/\(k=1->x=b):=by
    by_cases h:k=0
    ·exact⟨a,by rw [h]; exact p0,fun _=>rfl,fun h1=>by omega⟩
    ·obtain rfl:k=1:=by omega
     exact⟨b,q0,fun h1=>by omega,fun _=>rfl⟩
   have a0:=D (And.intro hx0 hx1);have a5:=D ha;have HB:=D hb;clear ha hb hx0 hx1 p0 q0;by_cases h0:x=0
   ·have c0:((x:Int) != 0)=false:=by simp [h0]
    have a4:=D h0;clear h0 a3 T;go_wp2
    go_roundw
    case rel=>exact⟨k+1,by omega,by go_num,by first | exact D rfl | exact D trivial,fun _=>by
     by_cases h:k=0
     ·rw [<- a0.out.1 h]; exact a4.out
     ·exact a5.out (by omega),fun h=>by
     rw [<- a0.out.2 (by omega)]; exact a4.out⟩
    case measure=>simp [intOf]; omega
   ·have c0:((x:Int) != 0)=ah:=by simp [h0]
    have E:=D (show r=x by
     by_cases h:k=0
     ·rw [a3.out (by rw [<- a0.out.1 h]; exact h0)]; exact (a0.out.1 h).symm
     ·rw [T.out (a5.out (by omega))]; exact (a0.out.2 (by omega)).symm)
    clear h0 a3 T;go_wp2;go_ret;exact⟨by have h:=E.out; subst h; rfl,rfl⟩
  ·have E:=D ((T.out (ha (by omega))).trans (hb (by omega)));obtain rfl:k=2:=by omega
   clear a3 T ha hb;go_wp2;go_ret;exact⟨by have h:=E.out; subst h; rfl,rfl⟩
def nE (x y:eU):Int:=VI (qP x.1 y.1) (qP x.2 y.2)
theorem y9 (a b:Int):qP a b=0↔a=b:=by unfold qP; split <;> (try split) <;> omega
theorem uX (a b:Int):qP a b<0↔a<b:=by unfold qP; split <;> (try split) <;> omega
theorem vX (x y:eU):nE x y=0↔x=y:=by
 obtain⟨a,b⟩:=x;obtain⟨c,d⟩:=y;have h1:=y9 a c;have h2:=y9 b d;unfold nE VI;simp only [Prod.mk.injEq]
 split <;> rename_i h
 ·rw [h2]; exact⟨fun e=>⟨h1.1 h,e⟩,fun e=>e.2⟩
 ·exact⟨fun e=>absurd e h,fun e=>absurd (h1.2 e.1) h⟩
theorem uY (x y:eU):nE x y<0↔eH x y=ah:=by
 obtain⟨a,b⟩:=x;obtain⟨c,d⟩:=y;have h1:=y9 a c;have h2:=uX b d;have h3:=uX a c;unfold nE VI eH;simp only [Q,O,decide_eq_true_eq,beq_iff_eq]
 split <;> rename_i h
 ·have:=h1.1 h;subst this;rw [h2];constructor
  ·intro h; exact Or.inr ⟨rfl,h⟩
  ·rintro (h|⟨_,h⟩)
   ·omega
   ·exact h
 ·rw [h3];constructor
  ·intro h; exact Or.inl h
  ·rintro (h4|⟨h4,_⟩)
   ·exact h4
   ·exact absurd (h1.2 h4) h
theorem jD (x:eU):eH x x=false:=by simp [eH]
theorem iV {x y z:eU} (h1:eH x y=ah) (h2:eH y z=ah):eH x z=ah:=by
 simp only [eH,Q,O,decide_eq_true_eq,beq_iff_eq] at *;omega
theorem mW (x y:eU):eH x y=ah\/x=y\/eH y x=ah:=by
 obtain⟨a,b⟩:=x;obtain⟨c,d⟩:=y;simp only [eH,Q,O,decide_eq_true_eq,beq_iff_eq,Prod.mk.injEq];omega
theorem J5 (args:Array Value) (w:World):(callFunc 67 args).run L w=.ok (.enter 67 args) w:=fV Z rfl rfl args w
theorem abP (args:Array Value) (w:World):(callFunc 107 args).run L w=.ok (.enter 107 args) w:=fV V rfl rfl args w
theorem Cb (x y:eU) (w:World):Calls L 38 #[nC x,nC y] w fun e w'=>e=.returned (J K (nE x y))/\Below w.heap.size w w':=by
 obtain⟨a,b⟩:=x;obtain⟨c,d⟩:=y;obtain⟨h0,X,Y⟩:=iI w #[J K a,J K b] #[J K c,J K d] 23 23;obtain⟨x0,x1⟩:=(X.on (Below.refl _ _).drew).cs2;obtain⟨y0,y1⟩:=(Y.on (Below.refl _ _).drew).cs2;have a5:=D (fun w'=>qW a c w');have a4:=D (fun w'=>qW b d w');have T:=D (fun (w':World) (u v:Int)=>(⟨(dQ w' #[J K u,J K v] 3).cell 0,(dQ w' #[J K u,J K v] 3).cell 1⟩:(w'.alloc (U #[J K u,J K v] 3)).cell? ⟨w'.heap.size,0,none⟩=some (J K u)/\(w'.alloc (U #[J K u,J K v] 3)).cell? ⟨w'.heap.size,1,none⟩=some (J K v)));have a3:=D (fun cs:Array Value=>show Below w.heap.size w (((w.alloc (U #[J K a,J K b] 23)).alloc (U #[J K c,J K d] 23)).drew.alloc (U cs 3)) from h0.drew.alloc h0.size _);have a0:=D (show nE (a,b) (c,d)=VI (qP a c) (qP b d) from rfl);generalize nE (a,b) (c,d)=res at *;generalize qP a c=u at *;generalize qP b d=v at *;clear X Y h0;go_enter Tryz.func38,Tryz.ntmps38;go_wp2_with fail;generalize (w.alloc (U #[J K a,J K b] 23)).alloc (U #[J K c,J K d] 23)=W at *
 go_region_law (first
  | (refine rG rfl (qF _ _ (.tmp 6) (.tmp 8) 3 3 67 rfl rfl rfl rfl _ (J5 _ _)) (a5.out _) ?_; rintro e3 w3 ⟨rfl,rfl⟩; refine⟨_,rfl,?_⟩)
  | (refine rG rfl (qF _ _ (.tmp 11) (.tmp 13) 3 3 67 rfl rfl rfl rfl _ (J5 _ _)) (a4.out _) ?_; rintro e3 w3 ⟨rfl,rfl⟩; refine⟨_,rfl,?_⟩)
  | (refine rG rfl (iZ _ _ (.tmp 15) 24 107 rfl rfl rfl _ (abP _ _)) (ahD _ _ u v _ (T.out _ u v).1 (T.out _ u v).2) ?_; rintro e3 w3 ⟨rfl,rfl⟩; refine⟨_,rfl,?_⟩))
 all_goals simp only [Exit.then]
 all_goals apply_assumption
 all_goals
  go_wp2;go_ret;exact⟨by have h:=a0.out; subst h; rfl,a3.out _⟩
end Go.Proofs.YtghlpefopidlaaaGreat.Av
