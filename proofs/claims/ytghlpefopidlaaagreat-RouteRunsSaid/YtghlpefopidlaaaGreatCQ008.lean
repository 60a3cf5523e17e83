/-
  The order of IDs: cm. Conditions as told.
-/
import Derived.Test.YtghlpefopidlaaaGreatCQ007
import Derived.Lib.QuietBelow
import Derived.BigQuiet
set_option maxRecDepth 100000
set_option maxHeartbeats 64000000
open _root_.Bool renaming and_eq_true->O,or_eq_true->Q,true->ah
open Go.IntKind renaming i64->K
open Go.Lib renaming hid->D
open Go.Obj renaming cells->U
open Go.Proofs.Tryz renaming prog->L,func107->V,func67->Z
open Go.Value renaming int->J
namespace Go.Proofs.YtghlpefopidlaaaGreat.Av
open Go.RowKit Go.Sort Rw YtghlpefopidlaaaGreat.Nm Pr Bk
def jK (a b:Int):Int:=if a<b then -1 else if b<a then 1 else 0
def Di (a b:Int):Int:=if a=0 then b else a
theorem oM (a:Int) (w:World):Calls L 128 #[J K a] w fun e w'=>e=.returned (.bool false)/\w'=w:=by
 go_enter Tryz.func128,Tryz.ntmps128;go_wp2;go_ret;exact⟨by simp,rfl⟩
theorem jO (a b:Int) (w:World):Calls L 67 #[J K a,J K b] w fun e w'=>e=.returned (J K (jK a b))/\w'=w:=by
 have R1:=D (show a<b->jK a b=-1 from fun h=>by unfold jK; rw [if_pos h]);have R2:=D (show ¬ a<b->b<a->jK a b=1 from fun h h2=>by unfold jK; rw [if_neg h,if_pos h2]);have R3:=D (show ¬ a<b->¬ b<a->jK a b=0 from fun h h2=>by unfold jK; rw [if_neg h,if_neg h2]);generalize jK a b=r at *;go_enter Z,Tryz.ntmps67;by_cases h1:a<b
 ·have E:=R1.out h1;clear R1 R2 R3;subst E;go_wp2_with (go_at_call 128; refine (oM _ _).mono ?_; rintro e w' ⟨rfl,rfl⟩);go_ret;exact⟨rfl,rfl⟩
 ·by_cases h2:b<a
  ·have E:=R2.out h1 h2;clear R1 R2 R3;subst E;go_wp2_with (go_at_call 128; refine (oM _ _).mono ?_; rintro e w' ⟨rfl,rfl⟩);go_ret;exact⟨rfl,rfl⟩
  ·have E:=R3.out h1 h2;clear R1 R2 R3;subst E;go_wp2_with (go_at_call 128; refine (oM _ _).mono ?_; rintro e w' ⟨rfl,rfl⟩);go_ret;exact⟨rfl,rfl⟩
theorem Kz (g:Nat) (cap:Nat) (a b:Int) (w:World) (p0:w.cell? ⟨g,0,none⟩=some (J K a)) (q0:w.cell? ⟨g,1,none⟩=some (J K b)):Calls L 107 #[.slice (some ⟨g,0,none⟩) 2 cap] w fun e w'=>e=.returned (J K (Di a b))/\w'=w:=by
 have R1:=D (show a≠0->Di a b=a from fun h=>by unfold Di; rw [if_neg h]);have R2:=D (show a=0->Di a b=b from fun h=>by unfold Di; rw [if_pos h]);generalize Di a b=r at *;go_enter V,Tryz.ntmps107;go_wp2
 go_loopw [8] (fun i wr=>∃ k:Nat,k<=2/\i=J K k/\RowKit.Hid (wr=w)/\(0<k->a=0)/\(1<k->b=0)) (fun i _=>2-(intOf i).toNat)
 case atStart=>exact⟨0,by omega,rfl,by first | exact D rfl | exact D trivial,fun h=>by omega,fun h=>by omega⟩
 case round =>
  obtain⟨k,hk,rfl,hw,ha,hb⟩:=hrel;obtain rfl:=hw.out;clear hw;by_cases hlt:k<2
  ·obtain⟨x,hx,hx0,hx1⟩:∃ x:Int,wr.cell? ⟨g,k,none⟩=some (J K x)/\(k=0->x=a)/\(k=1->x=b):=by
    by_cases h:k=0
    ·exact⟨a,by rw [h]; exact p0,fun _=>rfl,fun h1=>by omega⟩
    ·obtain rfl:k=1:=by omega
     exact⟨b,q0,fun h1=>by omega,fun _=>rfl⟩
   have HX:=D (And.intro hx0 hx1);have HA:=D ha;have HB:=D hb;clear ha hb hx0 hx1 p0 q0;by_cases h0:x=0
   ·have c0:((x:Int) != 0)=false:=by simp [h0]
    have H0:=D h0;clear h0 R1 R2;go_wp2
    go_roundw
    case rel=>exact⟨k+1,by omega,by go_num,by first | exact D rfl | exact D trivial,fun _=>by
     by_cases h:k=0
     ·rw [<- HX.out.1 h]; exact H0.out
     ·exact HA.out (by omega),fun h=>by
     rw [<- HX.out.2 (by omega)]; exact H0.out⟩
    case measure=>simp [intOf]; omega
   ·have c0:((x:Int) != 0)=ah:=by simp [h0]
    have E:=D (show r=x by
     by_cases h:k=0
     ·rw [R1.out (by rw [<- HX.out.1 h]; exact h0)]; exact (HX.out.1 h).symm
     ·rw [R2.out (HA.out (by omega))]; exact (HX.out.2 (by omega)).symm)
    clear h0 R1 R2;go_wp2;go_ret;exact⟨by have h:=E.out; subst h; rfl,rfl⟩
  ·have E:=D ((R2.out (ha (by omega))).trans (hb (by omega)));obtain rfl:k=2:=by omega
   clear R1 R2 ha hb;go_wp2;go_ret;exact⟨by have h:=E.out; subst h; rfl,rfl⟩
def iP (x y:dQ):Int:=Di (jK x.1 y.1) (jK x.2 y.2)
theorem oN (a b:Int):jK a b=0↔a=b:=by unfold jK; split <;> (try split) <;> omega
theorem lG (a b:Int):jK a b<0↔a<b:=by unfold jK; split <;> (try split) <;> omega
theorem lT (x y:dQ):iP x y=0↔x=y:=by
 obtain⟨a,b⟩:=x;obtain⟨c,d⟩:=y;have h1:=oN a c;have h2:=oN b d;unfold iP Di;simp only [Prod.mk.injEq]
 split <;> rename_i h
 ·rw [h2]; exact⟨fun e=>⟨h1.1 h,e⟩,fun e=>e.2⟩
 ·exact⟨fun e=>absurd e h,fun e=>absurd (h1.2 e.1) h⟩
theorem lH (x y:dQ):iP x y<0↔dB x y=ah:=by
 obtain⟨a,b⟩:=x;obtain⟨c,d⟩:=y;have h1:=oN a c;have h2:=lG b d;have h3:=lG a c;unfold iP Di dB;simp only [Q,O,decide_eq_true_eq,beq_iff_eq]
 split <;> rename_i h
 ·have:=h1.1 h;subst this;rw [h2];constructor
  ·intro h; exact Or.inr ⟨rfl,h⟩
  ·rintro (h|⟨_,h⟩)
   ·omega
   ·exact h
 ·rw [h3];constructor
  ·intro h; exact Or.inl h
  ·rintro (h4|⟨h4,_⟩)
   ·exact h4
   ·exact absurd (h1.2 h4) h
theorem gB (x:dQ):dB x x=false:=by simp [dB]
theorem fB {x y z:dQ} (h1:dB x y=ah) (h2:dB y z=ah):dB x z=ah:=by
 simp only [dB,Q,O,decide_eq_true_eq,beq_iff_eq] at *;omega
theorem jP (x y:dQ):dB x y=ah\/x=y\/dB y x=ah:=by
 obtain⟨a,b⟩:=x;obtain⟨c,d⟩:=y;simp only [dB,Q,O,decide_eq_true_eq,beq_iff_eq,Prod.mk.injEq];omega
theorem wu (args:Array Value) (w:World):(callFunc 67 args).run L w=.ok (.enter 67 args) w:=fu Z rfl rfl args w
theorem Ho (args:Array Value) (w:World):(callFunc 107 args).run L w=.ok (.enter 107 args) w:=fu V rfl rfl args w
theorem qE (x y:dQ) (w:World):Calls L 38 #[oJ x,oJ y] w fun e w'=>e=.returned (J K (iP x y))/\Below w.heap.size w w':=by
 obtain⟨a,b⟩:=x;obtain⟨c,d⟩:=y;obtain⟨h0,X,Y⟩:=gP w #[J K a,J K b] #[J K c,J K d] 23 23;obtain⟨x0,x1⟩:=(X.on (Below.refl _ _).drew).cs2;obtain⟨y0,y1⟩:=(Y.on (Below.refl _ _).drew).cs2;have C1:=D (fun w'=>jO a c w');have C2:=D (fun w'=>jO b d w');have RW:=D (fun (w':World) (u v:Int)=>(⟨(dG w' #[J K u,J K v] 3).cell 0,(dG w' #[J K u,J K v] 3).cell 1⟩:(w'.alloc (U #[J K u,J K v] 3)).cell? ⟨w'.heap.size,0,none⟩=some (J K u)/\(w'.alloc (U #[J K u,J K v] 3)).cell? ⟨w'.heap.size,1,none⟩=some (J K v)));have FIN:=D (fun cs:Array Value=>show Below w.heap.size w (((w.alloc (U #[J K a,J K b] 23)).alloc (U #[J K c,J K d] 23)).drew.alloc (U cs 3)) from h0.drew.alloc h0.size _);have RES:=D (show iP (a,b) (c,d)=Di (jK a c) (jK b d) from rfl);generalize iP (a,b) (c,d)=res at *;generalize jK a c=u at *;generalize jK b d=v at *;clear X Y h0;go_enter Tryz.func38,Tryz.ntmps38;go_wp2_with fail;generalize (w.alloc (U #[J K a,J K b] 23)).alloc (U #[J K c,J K d] 23)=W at *
 go_region_law (first
  | (refine jR rfl (lg _ _ (.tmp 6) (.tmp 8) 3 3 67 rfl rfl rfl rfl _ (wu _ _)) (C1.out _) ?_; rintro e3 w3 ⟨rfl,rfl⟩; refine⟨_,rfl,?_⟩)
  | (refine jR rfl (lg _ _ (.tmp 11) (.tmp 13) 3 3 67 rfl rfl rfl rfl _ (wu _ _)) (C2.out _) ?_; rintro e3 w3 ⟨rfl,rfl⟩; refine⟨_,rfl,?_⟩)
  | (refine jR rfl (gq _ _ (.tmp 15) 24 107 rfl rfl rfl _ (Ho _ _)) (Kz _ _ u v _ (RW.out _ u v).1 (RW.out _ u v).2) ?_; rintro e3 w3 ⟨rfl,rfl⟩; refine⟨_,rfl,?_⟩))
 all_goals simp only [Exit.then]
 all_goals apply_assumption
 all_goals
  go_wp2;go_ret;exact⟨by have h:=RES.out; subst h; rfl,FIN.out _⟩
end Go.Proofs.YtghlpefopidlaaaGreat.Av
