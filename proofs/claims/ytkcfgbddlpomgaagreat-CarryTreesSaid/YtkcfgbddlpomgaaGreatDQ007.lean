/-
  Less, seen and Find . Conditions as told.
-/
import Derived.Test.YtkcfgbddlpomgaaGreatDQ006
set_option maxRecDepth 100000
set_option maxHeartbeats 64000000
open Go.IntKind renaming i64->L
open Go.Lib renaming hid->D
open Go.Obj renaming cells->O
open Go.Value renaming int->K,slice->Q,agg->Z
open _root_.List renaming getElem?_eq_getElem->J,getElem?_cons_zero->U,getElem?_cons_succ->V,getElem?_toArray->X,map_cons->Y
namespace Go.Proofs.YtkcfgbddlpomgaaGreat.Bk
open Go.RowKit Rw YtkcfgbddlpomgaaGreat.Nm Pr
abbrev mD (x:Id):Value:=Z #[K L x.1,K L x.2]
theorem Ko:Tryz.prog.stoodInHeld 38=false:=by kernel_rfl
theorem rz (a b c d:Int) (r:Bool) (h:(a == c && b == d)=r) (w:World):(binOp .eql 38 (Z #[K L a,K L b]) (Z #[K L c,K L d])).run Tryz.prog w=.ok (.bool r) w:=by
 have st:=Ko;subst h;by_cases h1:a=c <;> by_cases h2:b=d <;> simp [go_sem,Tryz.underlying38,Tryz.underlying3,st,h1,h2]
theorem fE (w:World) (o:Obj):Below w.heap.size w (w.alloc o):=(Below.refl _ _).alloc (Nat.le_refl _) _
theorem gK (w:World) (c d:Array Value) (s t:TypeId):Below w.heap.size w ((w.alloc (O c s)).alloc (O d t))/\dJ ((w.alloc (O c s)).alloc (O d t)) w.heap.size c s/\dJ ((w.alloc (O c s)).alloc (O d t)) (w.heap.size+1) d t:=by
 refine⟨((Below.refl _ _).alloc (Nat.le_refl _) _).alloc (by simp) _,(dL w c s).more _,?_⟩;have h:=dL (w.alloc (O c s)) d t;simpa using h
theorem rA (x y:Id) (w:World):Calls Tryz.prog 55 #[mD x,mD y] w fun e w'=>e=.returned (.bool (eu x y))/\Below w.heap.size w w':=by
 obtain⟨a,b⟩:=x;obtain⟨c,d⟩:=y;obtain⟨h0,h1,h2⟩:=gK w #[K L a,K L b] #[K L c,K L d] 38 38;have B:=D h0;obtain⟨a0,a1⟩:=h1.cs2;obtain⟨b0,b1⟩:=h2.cs2;have R:=D (show eu (a,b) (c,d)=(decide (a<c) || (a == c && decide (b<d))) from rfl);generalize eu (a,b) (c,d)=r at *;obtain⟨r1,e1⟩:∃ r,decide (a<c)=r:=⟨_,rfl⟩;obtain⟨r2,e2⟩:∃ r,(a == c)=r:=⟨_,rfl⟩;obtain⟨r3,e3⟩:∃ r,decide (b<d)=r:=⟨_,rfl⟩;rw [e1,e2,e3] at R;clear h0 h1 h2;go_enter Tryz.func55,Tryz.ntmps55;cases r1 <;> cases r2
 all_goals
  go_wp2;go_ret;exact⟨by rw [R.out]; simp,B.out⟩
theorem Ng (me:Int) (nv av ev ov:Value) (sv:Sl) (l:List Id) (x:Id) (w:World) (hs:vV w (dR sv) l) :
  Calls Tryz.prog 94 #[Z #[K L me,nv,av,dR sv,ev,ov],mD x] w fun e w'=>e=.returned (.bool (decide (x∈l)))/\Below w.heap.size w w':=by
 obtain⟨c,d⟩:=x;obtain⟨so,sn,sc⟩:=sv;obtain⟨ao,ac,hv⟩:=hs.len;have hv:Q so sn sc=Q ao l.length ac:=hv;obtain⟨rfl,rfl,rfl⟩:so=ao/\sn=l.length/\sc=ac:=by simpa using hv
 obtain⟨h0,h1,h2⟩:=gK w #[K L me,nv,av,Q so l.length sc,ev,ov] #[K L c,K L d] 33 38;have B:=D h0;have HS:=D (hs.on h0);have X2:=D h1;have X3:=D h2;have lm:=hs.most;unfold maxLen at lm;obtain⟨n,hn⟩:∃ n,n=l.length:=⟨_,rfl⟩;have q3:=h1.cell 3;simp only [X,U,V] at q3;rw [<- hn] at HS X2 lm q3 B X3 ⊢;have HN:=D hn.symm;clear h0 h1 h2 hs hv hn;go_enter Tryz.func94,Tryz.ntmps94;go_upto_region 1 with fail;generalize (w.alloc (O #[K L me,nv,av,Q so n sc,ev,ov] 33)).alloc (O #[K L c,K L d] 38)=W at *;go_wp2
 go_loopw [10] (fun i wr=>∃ k:Nat,k<=n/\i=K L k/\Below W.heap.size W wr/\∀ (j:Nat) (y:Id),j<k->l[j]?=some y->y≠(c,d)) (fun i _=>n-(intOf i).toNat)
 case atStart=>exact⟨0,Nat.zero_le _,rfl,Below.refl _ _,fun j y h=>by omega⟩
 case round =>
  obtain⟨k,hk,rfl,hbe,hall⟩:=hrel;have BE:=D hbe;have AL:=D hall;clear hbe hall;by_cases hlt:k<n
  ·obtain⟨y,hy⟩:∃ y,l[k]?=some y:=⟨_,J (by rw [HN.out]; exact hlt)⟩;obtain⟨p,ix,px⟩:=elJ HS.out rfl HN.out hy;obtain⟨p0,p1⟩:=px wr BE.out;obtain⟨y1,y2⟩:=y;simp only at p0 p1;have NB:=D (fE wr (O #[K L y1,K L y2] 38));obtain⟨x0,x1⟩:=((X3.out.on BE.out).on NB.out).cs2;have hw3:IntKind.i64.wrap ((k:Int)+1)=(k:Int)+1:=IntWalk.i64_in _ (by omega);obtain⟨r,hr⟩:∃ r,(y1 == c && y2 == d)=r:=⟨_,rfl⟩;have he:=rz y1 y2 c d r hr;have HY:=D hy;have HR:=D hr;clear px hy hr;cases r
   ·go_wp2
    go_roundw
    case rel=>exact⟨k+1,by omega,by go_num,BE.out.trans (NB.out.mono BE.out.size),fun j y' hj h1=>by
     rcases Nat.lt_or_ge j k with h3|h3
     ·exact AL.out j y' h3 h1
     ·obtain rfl:j=k:=by omega
      have e1:=HY.out;rw [h1] at e1;rw [Option.some.inj e1];intro e;obtain⟨rfl,rfl⟩:y1=c/\y2=d:=by simpa using e
      have:=HR.out;simp at this⟩
    case measure=>simp [intOf]; omega
   ·go_wp2;go_ret;have h8:=HR.out;obtain⟨rfl,rfl⟩:y1=c/\y2=d:=by simpa using h8
    exact⟨by rw [decide_eq_true (List.mem_of_getElem? HY.out)]; rfl,B.out.trans ((BE.out.trans (NB.out.mono BE.out.size)).mono B.out.size)⟩
  ·obtain rfl:k=n:=by omega
   go_wp2;go_ret;have hd:decide ((c,d)∈l)=false:=decide_eq_false fun hm=>by
    obtain⟨j,hj,hje⟩:=List.getElem_of_mem hm;exact AL.out j (c,d) (by rw [<- HN.out]; exact hj) (by rw [J hj,hje]) rfl
   exact⟨by rw [hd]; rfl,B.out.trans (BE.out.mono B.out.size)⟩
theorem pq:∀ (l:List Id) (x:Id),-1<=fG l x
 | [],_=>by simp [fG]
 | a::l,x=>by
  unfold fG;have:=pq l x
  split
  ·omega
  ·split <;> omega
theorem Nh (l:List jD) (x:Id) (h:∀ (j:Nat) (y:jD),l[j]?=some y->(y.1,y.2.1)≠x):fG (l.map fun y=>(y.1,y.2.1)) x=-1:=by
 induction l with
 | nil=>rfl
 | cons a l ih =>
  rw [Y,fG,if_neg (h 0 a rfl),ih fun j y hj=>h (j+1) y (by simpa using hj),if_pos rfl]
theorem Wn (l:List jD) (k:Nat) (x:Id) (y:jD) (h:l[k]?=some y) (hx:(y.1,y.2.1)=x) (hall:∀ (j:Nat) (z:jD),j<k->l[j]?=some z->(z.1,z.2.1)≠x):fG (l.map fun y=>(y.1,y.2.1)) x=k:=by
 induction l generalizing k with
 | nil=>simp at h
 | cons a l ih =>
  cases k with
  | zero =>
   obtain rfl:a=y:=by simpa using h
   rw [Y,fG,if_pos hx]
   rfl
  | succ k =>
   have h2:=ih k (by simpa using h) fun j z hj hz=>hall (j+1) z (by omega) (by simpa using hz);rw [Y,fG,if_neg (hall 0 a (by omega) rfl),h2,if_neg (by omega)];omega
theorem sw (me:Int) (nv ev sv ov:Value) (av:Sl) (l:List jD) (x:Id) (w:World) (hs:uI w (dR av) l) :
  Calls Tryz.prog 36 #[Z #[K L me,nv,dR av,sv,ev,ov],mD x] w fun e w'=>e=.returned (K L (fG (l.map fun y=>(y.1,y.2.1)) x))/\Below w.heap.size w w':=by
 obtain⟨c,d⟩:=x;obtain⟨so,sn,sc⟩:=av;obtain⟨ao,ac,hv⟩:=hs.len;have hv:Q so sn sc=Q ao l.length ac:=hv;obtain⟨rfl,rfl,rfl⟩:so=ao/\sn=l.length/\sc=ac:=by simpa using hv
 obtain⟨h0,h1,h2⟩:=gK w #[K L me,nv,Q so l.length sc,sv,ev,ov] #[K L c,K L d] 33 38;have B:=D h0;have HS:=D (hs.on h0);have X2:=D h1;have X3:=D h2;have lm:=hs.most;unfold maxLen at lm;obtain⟨n,hn⟩:∃ n,n=l.length:=⟨_,rfl⟩;have q3:=h1.cell 2;simp only [X,U,V] at q3;rw [<- hn] at HS X2 lm q3 B X3 ⊢;have HN:=D hn.symm;clear h0 h1 h2 hs hv hn;go_enter Tryz.func36,Tryz.ntmps36;go_upto_region 1 with fail;generalize (w.alloc (O #[K L me,nv,Q so n sc,sv,ev,ov] 33)).alloc (O #[K L c,K L d] 38)=W at *;go_wp2
 go_loopw [10] (fun i wr=>∃ k:Nat,k<=n/\i=K L k/\Below W.heap.size W wr/\∀ (j:Nat) (y:jD),j<k->l[j]?=some y->(y.1,y.2.1)≠(c,d)) (fun i _=>n-(intOf i).toNat)
 case atStart=>exact⟨0,Nat.zero_le _,rfl,Below.refl _ _,fun j y h=>by omega⟩
 case round =>
  obtain⟨k,hk,rfl,hbe,hall⟩:=hrel;have BE:=D hbe;have AL:=D hall;clear hbe hall;by_cases hlt:k<n
  ·obtain⟨y,hy⟩:∃ y,l[k]?=some y:=⟨_,J (by rw [HN.out]; exact hlt)⟩;obtain⟨p,ix,px⟩:=VQ HS.out rfl HN.out hy;obtain⟨p0,p1,p2,p3⟩:=px wr BE.out;obtain⟨y1,y2,⟨yo,yn,yc⟩,y4⟩:=y;simp only at p0 p1 p2 p3;have NB:=D (fE wr (O #[K L y1,K L y2,Q yo yn yc,K L y4] 53));obtain⟨x0,x1⟩:=((X3.out.on BE.out).on NB.out).cs2;have hw3:IntKind.i64.wrap ((k:Int)+1)=(k:Int)+1:=IntWalk.i64_in _ (by omega);obtain⟨r,hr⟩:∃ r,(y1 == c && y2 == d)=r:=⟨_,rfl⟩;have he:=rz y1 y2 c d r hr;have HY:=D hy;have HR:=D hr;clear px hy hr;cases r
   ·go_wp2
    go_roundw
    case rel=>exact⟨k+1,by omega,by go_num,BE.out.trans (NB.out.mono BE.out.size),fun j y' hj h1=>by
     rcases Nat.lt_or_ge j k with h3|h3
     ·exact AL.out j y' h3 h1
     ·obtain rfl:j=k:=by omega
      have e1:=HY.out;rw [h1] at e1;rw [Option.some.inj e1];intro e;obtain⟨rfl,rfl⟩:y1=c/\y2=d:=by simpa using e
      have:=HR.out;simp at this⟩
    case measure=>simp [intOf]; omega
   ·go_wp2;go_ret;have h8:=HR.out;obtain⟨rfl,rfl⟩:y1=c/\y2=d:=by simpa using h8
    exact⟨by rw [Wn l k (y1,y2) _ HY.out rfl AL.out]; rfl,B.out.trans ((BE.out.trans (NB.out.mono BE.out.size)).mono B.out.size)⟩
  ·obtain rfl:k=n:=by omega
   go_wp2;go_ret;have hd:fG (l.map fun y=>(y.1,y.2.1)) (c,d)=-1:=Nh l (c,d) fun j y hj=>AL.out j y (by rw [<- HN.out]; exact (List.getElem?_eq_some_iff.1 hj).1) hj;exact⟨by rw [hd]; rfl,B.out.trans (BE.out.mono B.out.size)⟩
end Go.Proofs.YtkcfgbddlpomgaaGreat.Bk
