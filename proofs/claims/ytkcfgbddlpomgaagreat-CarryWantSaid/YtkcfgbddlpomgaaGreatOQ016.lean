/-
  The order of IDs: cm. Conditions as told.
-/
import Derived.Test.YtkcfgbddlpomgaaGreatOQ005
import Derived.Lib.QuietBelow
import Derived.BigQuiet
set_option maxRecDepth 100000
set_option maxHeartbeats 64000000
open _root_.Bool renaming and_eq_true->O,or_eq_true->Q,true->ah
open Go.IntKind renaming i64->K
open Go.Lib renaming hid->D
open Go.Obj renaming cells->U
open Go.Proofs.Tryz renaming prog->L,func103->V,func102->Z
open Go.Value renaming int->J
namespace Go.Proofs.YtkcfgbddlpomgaaGreat.Av
open Go.RowKit Go.Sort Rw YtkcfgbddlpomgaaGreat.Nm Pr Bk
def qh (a b:Int):Int:=if a<b then -1 else if b<a then 1 else 0
def R8 (a b:Int):Int:=if a=0 then b else a
theorem yA (a:Int) (w:World):Calls L 116 #[J K a] w fun e w'=>e=.returned (.bool false)/\w'=w:=by
 go_enter Tryz.func116,Tryz.ntmps116;go_wp2;go_ret;exact⟨by simp,rfl⟩
theorem yX (a b:Int) (w:World):Calls L 103 #[J K a,J K b] w fun e w'=>e=.returned (J K (qh a b))/\w'=w:=by
 have R1:=D (show a<b->qh a b=-1 from fun h=>by unfold qh; rw [if_pos h]);have R2:=D (show ¬ a<b->b<a->qh a b=1 from fun h h2=>by unfold qh; rw [if_neg h,if_pos h2]);have R3:=D (show ¬ a<b->¬ b<a->qh a b=0 from fun h h2=>by unfold qh; rw [if_neg h,if_neg h2]);generalize qh a b=r at *;go_enter V,Tryz.ntmps103;by_cases h1:a<b
 ·have E:=R1.out h1;clear R1 R2 R3;subst E;go_wp2_with (go_at_call 116; refine (yA _ _).mono ?_; rintro e w' ⟨rfl,rfl⟩);go_ret;exact⟨rfl,rfl⟩
 ·by_cases h2:b<a
  ·have E:=R2.out h1 h2;clear R1 R2 R3;subst E;go_wp2_with (go_at_call 116; refine (yA _ _).mono ?_; rintro e w' ⟨rfl,rfl⟩);go_ret;exact⟨rfl,rfl⟩
  ·have E:=R3.out h1 h2;clear R1 R2 R3;subst E;go_wp2_with (go_at_call 116; refine (yA _ _).mono ?_; rintro e w' ⟨rfl,rfl⟩);go_ret;exact⟨rfl,rfl⟩
theorem adq (g:Nat) (cap:Nat) (a b:Int) (w:World) (p0:w.cell? ⟨g,0,none⟩=some (J K a)) (q0:w.cell? ⟨g,1,none⟩=some (J K b)):Calls L 102 #[.slice (some ⟨g,0,none⟩) 2 cap] w fun e w'=>e=.returned (J K (R8 a b))/\w'=w:=by
 have R1:=D (show a≠0->R8 a b=a from fun h=>by unfold R8; rw [if_neg h]);have R2:=D (show a=0->R8 a b=b from fun h=>by unfold R8; rw [if_pos h]);generalize R8 a b=r at *;go_enter Z,Tryz.ntmps102;go_wp2
 go_loopw [8] (fun i wr=>∃ k:Nat,k<=2/\i=J K k/\RowKit.Hid (wr=w)/\(0<k->a=0)/\(1<k->b=0)) (fun i _=>2-(intOf i).toNat)
 case atStart=>exact⟨0,by omega,rfl,by first | exact D rfl | exact D trivial,fun h=>by omega,fun h=>by omega⟩
 case round =>
  obtain⟨k,hk,rfl,hw,ha,hb⟩:=hrel;obtain rfl:=hw.out;clear hw;by_cases hlt:k<2
  ·obtain⟨x,hx,hx0,hx1⟩:∃ x:Int,wr.cell? ⟨g,k,none⟩=some (J K x)/\(k=0->x=a)/\(k=1->x=b):=by
    by_cases h:k=0
    ·exact⟨a,by rw [h]; exact p0,fun _=>rfl,fun h1=>by omega⟩
    ·obtain rfl:k=1:=by omega
     exact⟨b,q0,fun h1=>by omega,fun _=>rfl⟩
   have HX:=D (And.intro hx0 hx1);have HA:=D ha;have HB:=D hb;clear ha hb hx0 hx1 p0 q0;by_cases h0:x=0
   ·have c0:((x:Int) != 0)=false:=by simp [h0]
    have H0:=D h0;clear h0 R1 R2;go_wp2
    go_roundw
    case rel=>exact⟨k+1,by omega,by go_num,by first | exact D rfl | exact D trivial,fun _=>by
     by_cases h:k=0
     ·rw [<- HX.out.1 h]; exact H0.out
     ·exact HA.out (by omega),fun h=>by
     rw [<- HX.out.2 (by omega)]; exact H0.out⟩
    case measure=>simp [intOf]; omega
   ·have c0:((x:Int) != 0)=ah:=by simp [h0]
    have E:=D (show r=x by
     by_cases h:k=0
     ·rw [R1.out (by rw [<- HX.out.1 h]; exact h0)]; exact (HX.out.1 h).symm
     ·rw [R2.out (HA.out (by omega))]; exact (HX.out.2 (by omega)).symm)
    clear h0 R1 R2;go_wp2;go_ret;exact⟨by have h:=E.out; subst h; rfl,rfl⟩
  ·have E:=D ((R2.out (ha (by omega))).trans (hb (by omega)));obtain rfl:k=2:=by omega
   clear R1 R2 ha hb;go_wp2;go_ret;exact⟨by have h:=E.out; subst h; rfl,rfl⟩
def mQ (x y:eT):Int:=R8 (qh x.1 y.1) (qh x.2 y.2)
theorem yB (a b:Int):qh a b=0↔a=b:=by unfold qh; split <;> (try split) <;> omega
theorem tV (a b:Int):qh a b<0↔a<b:=by unfold qh; split <;> (try split) <;> omega
theorem uM (x y:eT):mQ x y=0↔x=y:=by
 obtain⟨a,b⟩:=x;obtain⟨c,d⟩:=y;have h1:=yB a c;have h2:=yB b d;unfold mQ R8;simp only [Prod.mk.injEq]
 split <;> rename_i h
 ·rw [h2]; exact⟨fun e=>⟨h1.1 h,e⟩,fun e=>e.2⟩
 ·exact⟨fun e=>absurd e h,fun e=>absurd (h1.2 e.1) h⟩
theorem tX (x y:eT):mQ x y<0↔eO x y=ah:=by
 obtain⟨a,b⟩:=x;obtain⟨c,d⟩:=y;have h1:=yB a c;have h2:=tV b d;have h3:=tV a c;unfold mQ R8 eO;simp only [Q,O,decide_eq_true_eq,beq_iff_eq]
 split <;> rename_i h
 ·have:=h1.1 h;subst this;rw [h2];constructor
  ·intro h; exact Or.inr ⟨rfl,h⟩
  ·rintro (h|⟨_,h⟩)
   ·omega
   ·exact h
 ·rw [h3];constructor
  ·intro h; exact Or.inl h
  ·rintro (h4|⟨h4,_⟩)
   ·exact h4
   ·exact absurd (h1.2 h4) h
theorem kU (x:eT):eO x x=false:=by simp [eO]
theorem iT {x y z:eT} (h1:eO x y=ah) (h2:eO y z=ah):eO x z=ah:=by
 simp only [eO,Q,O,decide_eq_true_eq,beq_iff_eq] at *;omega
theorem lX (x y:eT):eO x y=ah\/x=y\/eO y x=ah:=by
 obtain⟨a,b⟩:=x;obtain⟨c,d⟩:=y;simp only [eO,Q,O,decide_eq_true_eq,beq_iff_eq,Prod.mk.injEq];omega
theorem IC (args:Array Value) (w:World):(callFunc 103 args).run L w=.ok (.enter 103 args) w:=fT V rfl rfl args w
theorem YP (args:Array Value) (w:World):(callFunc 102 args).run L w=.ok (.enter 102 args) w:=fT Z rfl rfl args w
theorem Ap (x y:eT) (w:World):Calls L 73 #[mY x,mY y] w fun e w'=>e=.returned (J K (mQ x y))/\Below w.heap.size w w':=by
 obtain⟨a,b⟩:=x;obtain⟨c,d⟩:=y;obtain⟨h0,X,Y⟩:=iE w #[J K a,J K b] #[J K c,J K d] 38 38;obtain⟨x0,x1⟩:=(X.on (Below.refl _ _).drew).cs2;obtain⟨y0,y1⟩:=(Y.on (Below.refl _ _).drew).cs2;have C1:=D (fun w'=>yX a c w');have C2:=D (fun w'=>yX b d w');have RW:=D (fun (w':World) (u v:Int)=>(⟨(dO w' #[J K u,J K v] 3).cell 0,(dO w' #[J K u,J K v] 3).cell 1⟩:(w'.alloc (U #[J K u,J K v] 3)).cell? ⟨w'.heap.size,0,none⟩=some (J K u)/\(w'.alloc (U #[J K u,J K v] 3)).cell? ⟨w'.heap.size,1,none⟩=some (J K v)));have FIN:=D (fun cs:Array Value=>show Below w.heap.size w (((w.alloc (U #[J K a,J K b] 38)).alloc (U #[J K c,J K d] 38)).drew.alloc (U cs 3)) from h0.drew.alloc h0.size _);have RES:=D (show mQ (a,b) (c,d)=R8 (qh a c) (qh b d) from rfl);generalize mQ (a,b) (c,d)=res at *;generalize qh a c=u at *;generalize qh b d=v at *;clear X Y h0;go_enter Tryz.func73,Tryz.ntmps73;go_wp2_with fail;generalize (w.alloc (U #[J K a,J K b] 38)).alloc (U #[J K c,J K d] 38)=W at *
 go_region_law (first
  | (refine qJ rfl (pE _ _ (.tmp 6) (.tmp 8) 3 3 103 rfl rfl rfl rfl _ (IC _ _)) (C1.out _) ?_; rintro e3 w3 ⟨rfl,rfl⟩; refine⟨_,rfl,?_⟩)
  | (refine qJ rfl (pE _ _ (.tmp 11) (.tmp 13) 3 3 103 rfl rfl rfl rfl _ (IC _ _)) (C2.out _) ?_; rintro e3 w3 ⟨rfl,rfl⟩; refine⟨_,rfl,?_⟩)
  | (refine qJ rfl (iG _ _ (.tmp 15) 25 102 rfl rfl rfl _ (YP _ _)) (adq _ _ u v _ (RW.out _ u v).1 (RW.out _ u v).2) ?_; rintro e3 w3 ⟨rfl,rfl⟩; refine⟨_,rfl,?_⟩))
 all_goals simp only [Exit.then]
 all_goals apply_assumption
 all_goals
  go_wp2;go_ret;exact⟨by have h:=RES.out; subst h; rfl,FIN.out _⟩
end Go.Proofs.YtkcfgbddlpomgaaGreat.Av
