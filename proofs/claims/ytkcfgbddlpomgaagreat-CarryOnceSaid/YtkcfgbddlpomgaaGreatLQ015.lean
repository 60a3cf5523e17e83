/-
  copyAdvert of packag. Conditions as told.
-/
import Derived.Test.YtkcfgbddlpomgaaGreatLQ010
import Derived.Test.YtkcfgbddlpomgaaGreatLQ009
set_option maxRecDepth 100000
set_option maxHeartbeats 64000000
open _root_.Bool renaming true->aW,false->aX
open _root_.Go renaming World->J,Value->au,bodyPost_ret->aL,TypeId->aR,Calls->bn,Addr->bC,Act->bD
open Go.IntKind renaming i64->aB
open Go.Lib renaming hid->ah
open Go.Operand renaming tmp->aG
open Go.Proofs.Tryz renaming prog->aH,results109->aK,ntmps109->aP,func109->aS
open Go.Region renaming binds->aI
open Go.RowKit renaming Below->aV
open Go.RowKit.Below renaming refl->ak,heap_setCell->aF
open Go.Value renaming slice->U,pointer->aj,int->aA,bool->bf
open _root_.List renaming getElem?_toArray->ay,getElem?_cons_zero->aC,getElem?_cons_succ->aD,set_cons_succ->aJ,getElem?_eq_some_iff->aN,getElem?_eq_getElem->aO,cons_append->aQ,nil_append->aT,length_set->aU,length_take->aY,length->bg
open _root_.Option renaming none->O,some->Z
open _root_.Or renaming inr->aM,inl->aZ
namespace Go.Proofs.YtkcfgbddlpomgaaGreat
namespace Av
open Go.RowKit Go.Sort Rw YtkcfgbddlpomgaaGreat.Nm Pr Bk
abbrev QH (W:J) (b:Nat) (a0 a1 a2 a3:au):J:=(((W.setCell ⟨b,0,O⟩ a0).setCell ⟨b,1,O⟩ a1).setCell ⟨b,2,O⟩ a2).setCell ⟨b,3,O⟩ a3
theorem yQ {W:J} {b:Nat} {t:aR} {z0 z1 z2 z3:au} (h:dI W b #[z0,z1,z2,z3] t) (a0 a1 a2 a3:au):dI (QH W b a0 a1 a2 a3) b #[a0,a1,a2,a3] t:=by
 have h2:=dO (k:=3) (dO (k:=2) (dO (k:=1) (dO (k:=0) h a0) a1) a2) a3;simpa using h2
theorem tY {B:Nat} {W0 W:J} {b:Nat} (h:Below B W0 W) (hb:B<=b) (a0 a1 a2 a3:au):Below B W0 (QH W b a0 a1 a2 a3) :=
 (((h.setCell (p:=⟨b,0,O⟩) hb a0).setCell (p:=⟨b,1,O⟩) hb a1).setCell (p:=⟨b,2,O⟩) hb a2).setCell (p:=⟨b,3,O⟩) hb a3
theorem FP {α:Type} {E:Ek α} {W:J} {B:Nat} {v:au} {l:List α} (h:Own E W B v l) (b:Nat) (hb:b<B) (a0 a1 a2 a3:au):Own E (QH W b a0 a1 a2 a3) B v l :=
 dY (dY (dY (dY h b 0 a0 hb) b 1 a1 hb) b 2 a2 hb) b 3 a3 hb
theorem yR (x:jC) (p:List C5) (w:J) (hp:fK w (dP x.2.2.1) p) (hl:p.length<=900) :
  bn aH 42 #[lU x] w fun e w'=>(∃ v':Sl,e=.returned (lU (x.1,x.2.1,v',x.2.2.2))/\jO w' w.heap.size (dP v') p)/\Below w.heap.size w w':=by
 obtain⟨a,b,⟨s1,s2,s3⟩,q⟩:=x;obtain⟨h0,X,Y⟩:=gQ w #[aA aB a,aA aB b,U s1 s2 s3,aA aB q] #[aA aB 0,aA aB 0,U O 0 0,aA aB 0] 53 53;have C:=ah (qL (s1,s2,s3) p _ (hp.on h0) hl);have B:=ah h0;have x2:=X.cell 2;simp only [ay,aC,aD] at x2;have X:=ah X;have Y:=ah Y;clear h0 hp hl;go_enter Tryz.func42,Tryz.ntmps42;go_wp2_with fail;generalize (w.alloc (.cells #[aA aB a,aA aB b,U s1 s2 s3,aA aB q] 53)).alloc (.cells #[aA aB 0,aA aB 0,U O 0 0,aA aB 0] 53)=W at *;refine C.out.mono ?_;rintro e w1 ⟨⟨⟨u1,u2,u3⟩,rfl,ho⟩,hb⟩;have X1:=X.out.on hb;have Y1:=Y.out.on hb;have hs:w.heap.size<W.heap.size:=X.out.lt;have O1:=ah (dY ho w.heap.size 2 (U u1 u2 u3) hs);have XB:=ah (show dI _ _ #[aA aB a,aA aB b,U u1 u2 u3,aA aB q] _ from by simpa using dO (k:=2) X1 (U u1 u2 u3));have YB:=ah (show dI _ _ _ _ from (aF w1 ⟨w.heap.size,2,O⟩ (U u1 u2 u3) _ (show w.heap.size+1≠w.heap.size by omega)).trans Y1);have B1:=ah ((B.out.trans (hb.mono B.out.size)).setCell (p:=⟨w.heap.size,2,O⟩) (Nat.le_refl _) (U u1 u2 u3));have y2:=X1.cell 2;have f2:=X1.fr 2;have z2:=X1.lt;simp only [ay,aC,aD] at y2;clear X1 Y1 ho hb x2 C;go_upto_region 2 with fail;clear y2 f2 z2;generalize w1.setCell ⟨w.heap.size,2,O⟩ (U u1 u2 u3)=w2 at *;obtain⟨x0,x1,x2,x3⟩:=XB.out.IK;obtain⟨r0,r1,r2,r3⟩:=YB.out.IK;obtain⟨t0,t1,t2,t3⟩:=YB.out.fs4;have zz:=YB.out.lt;have hs2:w.heap.size+1<W.heap.size:=Y.out.lt;have FB:=ah (yQ YB.out (aA aB a) (aA aB b) (U u1 u2 u3) (aA aB q));have BL:=ah (tY (b:=w.heap.size+1) B1.out (by omega) (aA aB a) (aA aB b) (U u1 u2 u3) (aA aB q));have FO:=ah (FP O1.out (w.heap.size+1) hs2 (aA aB a) (aA aB b) (U u1 u2 u3) (aA aB q));have HS:=ah hs;clear hs hs2;go_wp2_with fail;obtain⟨v0,v1,v2,v3⟩:=FB.out.IK;refine aL (v:=.agg #[aA aB a,aA aB b,U u1 u2 u3,aA aB q]) (by simp [results,Tryz.results42,go_sem,v0,v1,v2,v3]) rfl ?_;exact⟨⟨(u1,u2,u3),rfl,dG FO.out (Nat.le_of_lt HS.out)⟩,BL.out⟩
theorem jW {α:Type} {E:Ek α} (K:E.Ok) {W:J} {B g n cap k:Nat} {l:List α} {x:α} (h:Own E W B (U (Z ⟨g,0,O⟩) n cap) l) (hk:l[k]?=Z x):∀ w,Below W.heap.size W w->∀ j u,(E.cells x)[j]?=Z u->w.cell? ((⟨g,k * E.n,O⟩:bC).add j)=Z u:=by
 obtain⟨ao,c,hv⟩:=(Row.dw h).len;obtain⟨rfl,rfl,rfl⟩:Z ⟨g,0,O⟩=ao/\n=l.length/\cap=c:=by simpa using hv
 obtain⟨p,h1,_,h2⟩:=kX K (Row.dw h) rfl rfl hk;have h3:=nG K g k l.length cap (aN.1 hk).1 W;rw [h1] at h3;injection h3 with h4 _
 injection h4 with h5
 injection h5 with h6
 subst h6;exact h2
theorem jR {α:Type} {E:Ek α} {W:J} {B g n cap:Nat} {l:List α} (h:Own E W B (U (Z ⟨g,0,O⟩) n cap) l):∃ cur,dI W g cur E.t:=by
 rcases iR h with⟨h1,_⟩|⟨g',c',cur,h1,_,h2,_⟩
 ·cases h1
 ·obtain⟨rfl,_⟩:g=g'/\True:=by simp at h1; exact⟨h1.1,trivial⟩
  exact⟨cur,h2⟩
theorem qM {W:J} {b g:Nat} {c d:Array au} {s t:aR} (hb:dI W b c s) (hg:dI W g d t) (hne:(s == t)=aX):b≠g:=by
 rintro rfl;unfold dI at hb hg;rw [hb] at hg;injection hg with h
 injection h with _ h2
 rw [h2] at hne;simp at hne
def But (g:Nat) (W x:J):Prop:=(∀ k,k<W.heap.size->k≠g->x.heap[k]?=W.heap[k]?)/\W.heap.size<=x.heap.size
theorem But.box {g b:Nat} {W x:J} {cs:Array au} {t:aR} (h:But g W x) (hb:dI W b cs t) (hne:b≠g):dI x b cs t:=(h.1 b hb.lt hne).trans hb
theorem But.own {α:Type} {E:Ek α} {g:Nat} {W x:J} {B:Nat} {v:au} {l:List α} {d:Array au} {t:aR} (h:But g W x) (ho:Own E W B v l) (hg:dI W g d t) (hne:(E.t == t)=aX):Own E x B v l:=by
 refine⟨ho.1,?_⟩;rcases ho.2 with h2|⟨g',cap,cur,h1,h2,h3,h4⟩
 ·exact aZ h2
 ·exact aM ⟨g',cap,cur,h1,h2,by rw [h.1 g' (lt_of_heap h3) (qM (show dI W g' cur E.t from h3) hg hne)]; exact h3,h4⟩
theorem Bq:∀ (l:List jC) (k:Nat) (x:jC),k<l.length->flat ED (l.set k x)=((((flat ED l).set (k * 4) (aA aB x.1)).set (k * 4+1) (aA aB x.2.1)).set (k * 4+2) (dP x.2.2.1)).set (k * 4+3) (aA aB x.2.2.2)
 | [],k,x,h=>by simp at h
 | y::r,0,x,_=>rfl
 | y::r,k+1,x,h=>by
  have ih:=Bq r k x (by simpa using h);rw [show (k+1) * 4+3=(k * 4+3)+1+1+1+1 by omega,show (k+1) * 4+2=(k * 4+2)+1+1+1+1 by omega,show (k+1) * 4+1=(k * 4+1)+1+1+1+1 by omega,show (k+1) * 4=(k * 4)+1+1+1+1 by omega];simp only [aJ,flat,ED,cellsD,aQ,aT] at ih ⊢;rw [ih]
theorem Bt:∀ (l:List iF) (k:Nat) (x:iF) (s:Sl),l[k]?=Z x->flat EN (l.set k (x.1,x.2.1,x.2.2.1,x.2.2.2.1,s,x.2.2.2.2.2.1,x.2.2.2.2.2.2))=(flat EN l).set (k * 7+4) (dP s)
 | [],k,x,s,h=>by simp at h
 | y::r,0,x,s,h=>by
  obtain rfl:y=x:=by simpa using h
  rfl
 | y::r,k+1,x,s,h=>by
  have ih:=Bt r k x s (by simpa using h);rw [show (k+1) * 7+4=(k * 7+4)+1+1+1+1+1+1+1 by omega];simp only [aJ,flat,EN,iG,aQ,aT] at ih ⊢;rw [ih]
theorem Bu:∀ (l:List qK) (k:Nat) (x:qK) (s:Sl),l[k]?=Z x->flat EW (l.set k (x.1,x.2.1,s))=(flat EW l).set (k * 3+2) (dP s)
 | [],k,x,s,h=>by simp at h
 | y::r,0,x,s,h=>by
  obtain rfl:y=x:=by simpa using h
  rfl
 | y::r,k+1,x,s,h=>by
  have ih:=Bu r k x s (by simpa using h);rw [show (k+1) * 3+2=(k * 3+2)+1+1+1 by omega];simp only [aJ,flat,EW,tT,aQ,aT] at ih ⊢;rw [ih]
def aaB {α:Type} (E:Ek α) (B g:Nat) (v:au) (l:List α) (w w':J):Prop:=Own E w' B v l/\But g w w'/\(∀ B' W,B'<=g->Below B' W w->Below B' W w')
theorem dR (w:J) (g j:Nat) (u:au):But g w (w.setCell ⟨g,j,O⟩ u):=⟨fun k _ hk=>aF w ⟨g,j,O⟩ u k hk,by simp⟩
theorem But.trans {g:Nat} {a b c:J} (h1:But g a b) (h2:But g b c):But g a c:=⟨fun k hk hne=>(h2.1 k (Nat.lt_of_lt_of_le hk h1.2) hne).trans (h1.1 k hk hne),Nat.le_trans h1.2 h2.2⟩
theorem But.of_below {g:Nat} {a b:J} (h:Below a.heap.size a b):But g a b:=⟨fun k hk _=>h.block k hk,h.size⟩
theorem aaC {w:J} {B g n cap k:Nat} {l:List jC} (x:jC) (h:kW w B (U (Z ⟨g,0,O⟩) n cap) l) (hk:k<l.length) :
  ∃ w',(Instr.storeAt 53 (aj (Z ⟨g,k * 4,O⟩)) (lU x)).run aH w=.ok () w'/\aaB ED B g (U (Z ⟨g,0,O⟩) n cap) (l.set k x) w w':=by
 obtain⟨y,hy⟩:∃ y,l[k]?=Z y:=⟨_,aO hk⟩;have c:=jW okD h hy w (ak _ _);have c0:=c 0 _ rfl;have c1:=c 1 _ rfl;have c2:=c 2 _ rfl;have c3:=c 3 _ rfl;simp [Addr.add,ED] at c0 c1 c2 c3;obtain⟨cur,hb⟩:=jR h;have f:=fun j=>hb.fr j;obtain⟨ao,c',hv⟩:=(Row.dw h).len;obtain⟨_,rfl,_⟩:Z ⟨g,0,O⟩=ao/\n=l.length/\cap=c':=by simpa using hv
 have h:w.ownsRow B 53 4 (U (Z ⟨g,0,O⟩) l.length cap) l.length (flat ED l):=h;have s1:=(h.stored (k * 4) (aA aB x.1)).1;have s2:=(s1.stored (k * 4+1) (aA aB x.2.1)).1;have s3:=(s2.stored (k * 4+2) (dP x.2.2.1)).1;have s4:=(s3.stored (k * 4+3) (aA aB x.2.2.2)).1;refine⟨(((w.setCell ⟨g,k * 4,O⟩ (aA aB x.1)).setCell ⟨g,k * 4+1,O⟩ (aA aB x.2.1)).setCell ⟨g,k * 4+2,O⟩ (dP x.2.2.1)).setCell ⟨g,k * 4+3,O⟩ (aA aB x.2.2.2),?_,?_,((dR _ g _ _).trans (dR _ g _ _)).trans ((dR _ g _ _).trans (dR _ g _ _)),fun B' W hB hb=>(((hb.setCell (p:=⟨g,_,O⟩) hB _).setCell (p:=⟨g,_,O⟩) hB _).setCell (p:=⟨g,_,O⟩) hB _).setCell (p:=⟨g,_,O⟩) hB _⟩
 ·simp [go_sem,c0,c1,c2,c3,f]
 ·have e:=Bq l k x hk;show World.ownsRow _ B 53 4 _ (l.set k x).length (flat ED (l.set k x));rw [e,aU];exact s4
theorem aaD {w:J} {B g n cap k:Nat} {l:List iF} {x:iF} (s1:Option bC) (s2 s3:Nat) (h:jA w B (U (Z ⟨g,0,O⟩) n cap) l) (hk:l[k]?=Z x) :
  ∃ w',(Instr.storeAt 41 (aj (Z ⟨g,k * 7+4,O⟩)) (U s1 s2 s3)).run aH w=.ok () w'/\aaB EN B g (U (Z ⟨g,0,O⟩) n cap) (l.set k (x.1,x.2.1,x.2.2.1,x.2.2.2.1,(s1,s2,s3),x.2.2.2.2.2.1,x.2.2.2.2.2.2)) w w':=by
 have c:=jW nR h hk w (ak _ _);have c4:=c 4 _ rfl;simp [Addr.add,EN] at c4;obtain⟨cur,hb⟩:=jR h;have f:=hb.fr (k * 7+4);obtain⟨ao,c',hv⟩:=(Row.dw h).len;obtain⟨_,rfl,_⟩:Z ⟨g,0,O⟩=ao/\n=l.length/\cap=c':=by simpa using hv
 have h:w.ownsRow B 68 7 (U (Z ⟨g,0,O⟩) l.length cap) l.length (flat EN l):=h;have t1:=(h.stored (k * 7+4) (U s1 s2 s3)).1;refine⟨w.setCell ⟨g,k * 7+4,O⟩ (U s1 s2 s3),by simp [go_sem,c4,f],?_,dR _ g _ _,fun B' W hB hb=>hb.setCell (p:=⟨g,_,O⟩) hB _⟩;have e:=Bt l k x (s1,s2,s3) hk;show World.ownsRow _ B 68 7 _ (bg _) (flat EN _);rw [e,aU];exact t1
theorem aaE {w:J} {B g n cap k:Nat} {l:List qK} {x:qK} (s1:Option bC) (s2 s3:Nat) (h:pI w B (U (Z ⟨g,0,O⟩) n cap) l) (hk:l[k]?=Z x) :
  ∃ w',(Instr.storeAt 41 (aj (Z ⟨g,k * 3+2,O⟩)) (U s1 s2 s3)).run aH w=.ok () w'/\aaB EW B g (U (Z ⟨g,0,O⟩) n cap) (l.set k (x.1,x.2.1,(s1,s2,s3))) w w':=by
 have c:=jW okW h hk w (ak _ _);have c2:=c 2 _ rfl;simp [Addr.add,EW] at c2;obtain⟨cur,hb⟩:=jR h;have f:=hb.fr (k * 3+2);obtain⟨ao,c',hv⟩:=(Row.dw h).len;obtain⟨_,rfl,_⟩:Z ⟨g,0,O⟩=ao/\n=l.length/\cap=c':=by simpa using hv
 have h:w.ownsRow B 61 3 (U (Z ⟨g,0,O⟩) l.length cap) l.length (flat EW l):=h;have t1:=(h.stored (k * 3+2) (U s1 s2 s3)).1;refine⟨w.setCell ⟨g,k * 3+2,O⟩ (U s1 s2 s3),by simp [go_sem,c2,f],?_,dR _ g _ _,fun B' W hB hb=>hb.setCell (p:=⟨g,_,O⟩) hB _⟩;have e:=Bu l k x (s1,s2,s3) hk;show World.ownsRow _ B 61 3 _ (bg _) (flat EW _);rw [e,aU];exact t1
theorem eu.set {α β:Type} {R:α->β->Prop}:∀ {l:List α} {m:List β} (k:Nat) (a:α) (b:β),eu R l m->m[k]?=Z b->R a b->eu R (l.set k a) m
 | _,_,_,_,_,.nil,h,_=>by simp at h
 | _,_,0,a,b,.cons x t,h,hr=>by
  simp at h;subst h;exact .cons hr t
 | _,_,k+1,a,b,.cons x t,h,hr=>.cons x (eu.set k a b t (by simpa using h) hr)
def PM (w0:J) (B:Nat) (wr:J) (v:au) (p:List C5):Prop:=fK w0 v p\/jO wr B v p
def IQ (w0:J) (B:Nat) (wr:J) (x:jC) (a:Ad):Prop:=(x.1,x.2.1)=a.id/\x.2.2.2=a.par/\PM w0 B wr (dP x.2.2.1) a.p
def Ak (w0:J) (B:Nat) (wr:J) (x:iF) (a:En):Prop:=(x.1,x.2.1)=a.tree/\(x.2.2.1,x.2.2.2.1)=a.sub/\x.2.2.2.2.2.1=a.from_/\x.2.2.2.2.2.2=a.up/\PM w0 B wr (dP x.2.2.2.2.1) a.p
def Kr (w0:J) (B:Nat) (wr:J) (x:qK) (a:Ow):Prop:=(x.1,x.2.1)=a.id/\PM w0 B wr (dP x.2.2) a.p
theorem PM.grow {w0 wr x:J} {B:Nat} {v:au} {p:List C5} (h:PM w0 B wr v p) (hb:Below wr.heap.size wr x):PM w0 B x v p:=h.imp id fun h=>Bk.dx h hb
theorem PM.but {w0 wr x:J} {B:Nat} {v:au} {p:List C5} {g:Nat} {d:Array au} {t:aR} (h:PM w0 B wr v p) (hb:But g wr x) (hg:dI wr g d t) (hne:(106 == t)=aX):PM w0 B x v p:=h.imp id fun h=>hb.own h hg hne
theorem PM.row {w0 wr:J} {B:Nat} {v:au} {p:List C5} (h:PM w0 B wr v p) (hb:Below w0.heap.size w0 wr):fK wr v p:=h.elim (fun h=>h.on hb) Row.dw
theorem IQ.grow {w0 wr x:J} {B:Nat} {y:jC} {a:Ad} (h:IQ w0 B wr y a) (hb:Below wr.heap.size wr x):IQ w0 B x y a:=⟨h.1,h.2.1,h.2.2.grow hb⟩
theorem Ak.grow {w0 wr x:J} {B:Nat} {y:iF} {a:En} (h:Ak w0 B wr y a) (hb:Below wr.heap.size wr x):Ak w0 B x y a:=⟨h.1,h.2.1,h.2.2.1,h.2.2.2.1,h.2.2.2.2.grow hb⟩
theorem Kr.grow {w0 wr x:J} {B:Nat} {y:qK} {a:Ow} (h:Kr w0 B wr y a) (hb:Below wr.heap.size wr x):Kr w0 B x y a:=⟨h.1,h.2.grow hb⟩
theorem IQ.but {w0 wr x:J} {B:Nat} {y:jC} {a:Ad} {g:Nat} {d:Array au} {t:aR} (h:IQ w0 B wr y a) (hb:But g wr x) (hg:dI wr g d t) (hne:(106 == t)=aX):IQ w0 B x y a:=⟨h.1,h.2.1,h.2.2.but hb hg hne⟩
theorem Ak.but {w0 wr x:J} {B:Nat} {y:iF} {a:En} {g:Nat} {d:Array au} {t:aR} (h:Ak w0 B wr y a) (hb:But g wr x) (hg:dI wr g d t) (hne:(106 == t)=aX):Ak w0 B x y a:=⟨h.1,h.2.1,h.2.2.1,h.2.2.2.1,h.2.2.2.2.but hb hg hne⟩
theorem Kr.but {w0 wr x:J} {B:Nat} {y:qK} {a:Ow} {g:Nat} {d:Array au} {t:aR} (h:Kr w0 B wr y a) (hb:But g wr x) (hg:dI wr g d t) (hne:(106 == t)=aX):Kr w0 B x y a:=⟨h.1,h.2.but hb hg hne⟩
def vw (w:J):J:={ w with heap:=#[] }
theorem VT (w:J) (a:bC):(vw w).cell? a=O:=by
 unfold World.cell? vw;simp
theorem Jp {α:Type} {E:Ek α} {w x:J} {v:au} {l:List α} (h:Row E (vw w) v l):Row E x v l:=by
 rcases h with h|⟨a,cap,h1,h2,h3,h4⟩
 ·exact aZ h
 ·refine aM ⟨a,cap,h1,h2,h3,fun j u hj=>?_⟩;have h5:=h4 j u hj;rw [VT] at h5;cases h5
theorem tu {α:Type}:∀ (l:List α) (k:Nat) (x:α),k<l.length->(l.set k x).take (k+1)=l.take k++[x]
 | [],k,x,h=>absurd h (Nat.not_lt_zero k)
 | _::_,0,_,_=>rfl
 | a::l,k+1,x,h=>by
  rw [aJ,List.take_succ_cons,tu l k x (by simpa using h)]
  rfl
theorem vX {α β:Type} {R:α->β->Prop} {l:List α} {m:List β} {k:Nat} {x:α} {y:β} (h:eu R (l.take k) (m.take k)) (hk:k<l.length) (hy:m[k]?=Z y) (hx:R x y):eu R ((l.set k x).take (k+1)) (m.take (k+1)):=by
 rw [tu l k x hk,List.take_add_one,hy];exact h.append (.cons hx .nil)
structure Cp (w0:J) (B:Nat) (wr:J) (b:Br) (nv av sv ev ov:Sl):Prop where
 near:mI wr B (dP nv) b.near
 seen:qY wr B (dP sv) b.seen
 dM:∃ l,kW wr B (dP av) l/\eu (IQ w0 B wr) l b.dM
 ent:∃ l,jA wr B (dP ev) l/\eu (Ak w0 B wr) l b.ent
 own:∃ l,pI wr B (dP ov) l/\eu (Kr w0 B wr) l b.own
theorem Cp.grow {w0 wr x:J} {B:Nat} {b:Br} {nv av sv ev ov:Sl} (h:Cp w0 B wr b nv av sv ev ov) (hb:Below wr.heap.size wr x):Cp w0 B x b nv av sv ev ov where
 near:=Bk.dx h.near hb
 seen:=Bk.dx h.seen hb
 dM:=by obtain⟨l,h1,h2⟩:=h.dM; exact⟨l,Bk.dx h1 hb,h2.mono fun _ _ h=>h.grow hb⟩
 ent:=by obtain⟨l,h1,h2⟩:=h.ent; exact⟨l,Bk.dx h1 hb,h2.mono fun _ _ h=>h.grow hb⟩
 own:=by obtain⟨l,h1,h2⟩:=h.own; exact⟨l,Bk.dx h1 hb,h2.mono fun _ _ h=>h.grow hb⟩
theorem Cp.but {w0 wr x:J} {B:Nat} {b:Br} {nv av sv ev ov:Sl} (h:Cp w0 B wr b nv av sv ev ov) {g:Nat} {d:Array au} (hb:But g wr x) (hg:dI wr g d 33):Cp w0 B x b nv av sv ev ov where
 near:=hb.own h.near hg (by decide)
 seen:=hb.own h.seen hg (by decide)
 dM:=by obtain⟨l,h1,h2⟩:=h.dM; exact⟨l,hb.own h1 hg (by decide),h2.mono fun _ _ h=>h.but hb hg (by decide)⟩
 ent:=by obtain⟨l,h1,h2⟩:=h.ent; exact⟨l,hb.own h1 hg (by decide),h2.mono fun _ _ h=>h.but hb hg (by decide)⟩
 own:=by obtain⟨l,h1,h2⟩:=h.own; exact⟨l,hb.own h1 hg (by decide),h2.mono fun _ _ h=>h.but hb hg (by decide)⟩
structure Cs (w0 w wr:J) (b:Br) (kd kn kw:Nat) (nv av sv ev ov:Sl):Prop where
 sW:Below w.heap.size w wr
 bx:dI wr w.heap.size #[aA aB b.me,dP nv,dP av,dP sv,dP ev,dP ov] 33
 bz:dI wr (w.heap.size+1) #[aA aB 0,U O 0 0,U O 0 0,U O 0 0,U O 0 0,U O 0 0] 33
 near:mI wr w.heap.size (dP nv) b.near
 seen:qY wr w.heap.size (dP sv) b.seen
 dM:∃ l,kW wr w.heap.size (dP av) l/\eu (IQ w0 w.heap.size wr) l b.dM/\eu (IQ (vw w0) w.heap.size wr) (l.take kd) (b.dM.take kd)
 ent:∃ l,jA wr w.heap.size (dP ev) l/\eu (Ak w0 w.heap.size wr) l b.ent/\eu (Ak (vw w0) w.heap.size wr) (l.take kn) (b.ent.take kn)
 own:∃ l,pI wr w.heap.size (dP ov) l/\eu (Kr w0 w.heap.size wr) l b.own/\eu (Kr (vw w0) w.heap.size wr) (l.take kw) (b.own.take kw)
theorem Cs.QH {w0 w wr x:J} {b:Br} {kd kn kw kd':Nat} {nv sv ev ov:Sl} {g n cap:Nat} {l l':List jC} (h:Cs w0 w wr b kd kn kw nv (Z ⟨g,0,O⟩,n,cap) sv ev ov) (ho:kW wr w.heap.size (U (Z ⟨g,0,O⟩) n cap) l) (hx:kW x w.heap.size (U (Z ⟨g,0,O⟩) n cap) l') (hb:But g wr x) (hw:Below w.heap.size w x) (hA:eu (IQ w0 w.heap.size x) l' b.dM) (hV:eu (IQ (vw w0) w.heap.size x) (l'.take kd') (b.dM.take kd')):Cs w0 w x b kd' kn kw nv (Z ⟨g,0,O⟩,n,cap) sv ev ov:=by
 obtain⟨cur,hg⟩:=jR ho;exact {
  sW:=hw
  bx:=hb.box h.bx (qM h.bx hg (by decide))
  bz:=hb.box h.bz (qM h.bz hg (by decide))
  near:=hb.own h.near hg (by decide)
  seen:=hb.own h.seen hg (by decide)
  dM:=⟨l',hx,hA,hV⟩
  ent:=by obtain⟨l,h1,h2,h3⟩:=h.ent; exact⟨l,hb.own h1 hg (by decide),h2.mono fun _ _ h=>h.but hb hg (by decide),h3.mono fun _ _ h=>h.but hb hg (by decide)⟩
  own:=by obtain⟨l,h1,h2,h3⟩:=h.own; exact⟨l,hb.own h1 hg (by decide),h2.mono fun _ _ h=>h.but hb hg (by decide),h3.mono fun _ _ h=>h.but hb hg (by decide)⟩ }
theorem Cs.aeZ {w0 w wr x:J} {b:Br} {kd kn kw kn':Nat} {nv av sv ov:Sl} {g n cap:Nat} {l l':List iF} (h:Cs w0 w wr b kd kn kw nv av sv (Z ⟨g,0,O⟩,n,cap) ov) (ho:jA wr w.heap.size (U (Z ⟨g,0,O⟩) n cap) l) (hx:jA x w.heap.size (U (Z ⟨g,0,O⟩) n cap) l') (hb:But g wr x) (hw:Below w.heap.size w x) (hA:eu (Ak w0 w.heap.size x) l' b.ent) (hV:eu (Ak (vw w0) w.heap.size x) (l'.take kn') (b.ent.take kn')):Cs w0 w x b kd kn' kw nv av sv (Z ⟨g,0,O⟩,n,cap) ov:=by
 obtain⟨cur,hg⟩:=jR ho;exact {
  sW:=hw
  bx:=hb.box h.bx (qM h.bx hg (by decide))
  bz:=hb.box h.bz (qM h.bz hg (by decide))
  near:=hb.own h.near hg (by decide)
  seen:=hb.own h.seen hg (by decide)
  dM:=by obtain⟨l,h1,h2,h3⟩:=h.dM; exact⟨l,hb.own h1 hg (by decide),h2.mono fun _ _ h=>h.but hb hg (by decide),h3.mono fun _ _ h=>h.but hb hg (by decide)⟩
  ent:=⟨l',hx,hA,hV⟩
  own:=by obtain⟨l,h1,h2,h3⟩:=h.own; exact⟨l,hb.own h1 hg (by decide),h2.mono fun _ _ h=>h.but hb hg (by decide),h3.mono fun _ _ h=>h.but hb hg (by decide)⟩ }
theorem Cs.setW {w0 w wr x:J} {b:Br} {kd kn kw kw':Nat} {nv av sv ev:Sl} {g n cap:Nat} {l l':List qK} (h:Cs w0 w wr b kd kn kw nv av sv ev (Z ⟨g,0,O⟩,n,cap)) (ho:pI wr w.heap.size (U (Z ⟨g,0,O⟩) n cap) l) (hx:pI x w.heap.size (U (Z ⟨g,0,O⟩) n cap) l') (hb:But g wr x) (hw:Below w.heap.size w x) (hA:eu (Kr w0 w.heap.size x) l' b.own) (hV:eu (Kr (vw w0) w.heap.size x) (l'.take kw') (b.own.take kw')):Cs w0 w x b kd kn kw' nv av sv ev (Z ⟨g,0,O⟩,n,cap):=by
 obtain⟨cur,hg⟩:=jR ho;exact {
  sW:=hw
  bx:=hb.box h.bx (qM h.bx hg (by decide))
  bz:=hb.box h.bz (qM h.bz hg (by decide))
  near:=hb.own h.near hg (by decide)
  seen:=hb.own h.seen hg (by decide)
  dM:=by obtain⟨l,h1,h2,h3⟩:=h.dM; exact⟨l,hb.own h1 hg (by decide),h2.mono fun _ _ h=>h.but hb hg (by decide),h3.mono fun _ _ h=>h.but hb hg (by decide)⟩
  ent:=by obtain⟨l,h1,h2,h3⟩:=h.ent; exact⟨l,hb.own h1 hg (by decide),h2.mono fun _ _ h=>h.but hb hg (by decide),h3.mono fun _ _ h=>h.but hb hg (by decide)⟩
  own:=⟨l',hx,hA,hV⟩ }
end Av
namespace Bk
open Go.RowKit Rw YtkcfgbddlpomgaaGreat.Nm Pr
def Kt (B b2 _:Nat) (so:Option bC) (sn sc at_:Nat) (lo hiv:au) (lt ld:List iF) (i:Nat) (v:au) (x:J):Prop :=
 match i with
 | 0=>∃ g,v=U (Z ⟨g,0,O⟩) 0 0/\B<=g/\dI x g #[] 68
 | 1=>v=aj (Z ⟨b2,4,O⟩)
 | 2=>v=U so sn sc
 | 3=>v=aA aB (at_:Int)
 | 4=>v=lo
 | 5=>jA x B v lt
 | 6=>v=aj (Z ⟨b2,4,O⟩)
 | 7=>v=U so sn sc
 | 8=>v=aA aB (at_:Int)
 | 9=>v=aA aB ((at_:Int)+1)
 | 10=>v=hiv
 | 11=>jA x B v (lt++ld)
 | 12=>v=aj (Z ⟨b2,4,O⟩)
 | _=>True
noncomputable def XJ:Code:=((Tryz.f93.body.bind (eD 5)).getD .skip)
theorem QI (B b2 b3:Nat) (so:Option bC) (sn sc at_:Nat) (lo hiv:au) (lt ld:List iF) (i:Nat) (v:au) (x x':J) (h:Kt B b2 b3 so sn sc at_ lo hiv lt ld i v x) (hb:aV x.heap.size x x'):Kt B b2 b3 so sn sc at_ lo hiv lt ld i v x':=by
 by_cases hi:i<13
 ·rcases (by omega:i=0\/i=1\/i=2\/i=3\/i=4\/i=5\/i=6\/i=7\/i=8\/i=9\/i=10\/i=11\/i=12) with rfl|rfl|rfl|rfl|rfl|rfl|rfl|rfl|rfl|rfl|rfl|rfl|rfl
  ·obtain⟨g,h1,h2,h3⟩:=h;exact⟨g,h1,h2,h3.on hb⟩
  ·exact h
  ·exact h
  ·exact h
  ·exact h
  ·exact dx h hb
  ·exact h
  ·exact h
  ·exact h
  ·exact h
  ·exact h
  ·exact dx h hb
  ·exact h
 ·unfold Kt
  split <;> first | omega | trivial
theorem ae2 (Q:Exit->bD->J->Prop) (W:J) (b2 b3:Nat) (me:Int) (y1 y2 y3 y5:au) (so:Option bC) (sn sc at_:Nat) (l:List iF) (u0 u1 u2 u3 u6 u7 u8 u9 u10 u12 u13 u14 u15 u16 u17 u18 u19 u20 u21 u22 u23 u24 u25 u26 u27 u28 u29 u30 u31 u32 u33 u34 u35 u36 u37 u38 u39 u40 u41 u42 u43 u44 u45 u46 u47 u48 u49 u50 u51 u52 u53 u54 u55 u56 u57 u58 u59 u60 u61 u62 u63 u64 u65 u66 u67 u68 u69 u70 u71 u72 u73 u74 u75 u76 u77 u78 u79 u80 u81 u82 u83 u84 u85 u86 u87 u88 u89 u90 u91 u92 u93 u94 u95 u96 u97 u98 u99 u100 u101 u102 u103:au)
  (h2:dI W b2 #[aA aB me,y1,y2,y3,U so sn sc,y5] 33) (hs:kC W (U so sn sc) l) (hat:at_+1<=l.length) (hlen:l.length<=900)
  (hQ:∀ (x:J) (v39 v40 v41 v42 v43 v44 v45 v46 v47 v48 v49 v50 v51:au),dI x b2 #[aA aB me,y1,y2,y3,v50,y5] 33->jA x W.heap.size v50 (l.take at_++l.drop (at_+1))->(∀ B,B<=b2->aV B W x)->(∀ c cs t,c≠b2->dI W c cs t->dI x c cs t)->(∀ k,k<W.heap.size->k≠b2->x.heap[k]?=W.heap[k]?)->Q .normal ⟨(u0::u1::u2::u3::aj (Z ⟨b2,0,O⟩)::aj (Z ⟨b3,0,O⟩)::u6::u7::u8::u9::u10::aA aB (at_:Int)::u12::u13::u14::u15::u16::u17::u18::u19::u20::u21::u22::u23::u24::u25::u26::u27::u28::u29::u30::u31::u32::u33::u34::u35::u36::u37::u38::v39::v40::v41::v42::v43::v44::v45::v46::v47::v48::v49::v50::v51::u52::u53::u54::u55::u56::u57::u58::u59::u60::u61::u62::u63::u64::u65::u66::u67::u68::u69::u70::u71::u72::u73::u74::u75::u76::u77::u78::u79::u80::u81::u82::u83::u84::u85::u86::u87::u88::u89::u90::u91::u92::u93::u94::u95::u96::u97::u98::u99::u100::u101::u102::u103::[]).toArray,[]⟩ x) :
  Code.wp aH XJ Q ⟨(u0::u1::u2::u3::aj (Z ⟨b2,0,O⟩)::aj (Z ⟨b3,0,O⟩)::u6::u7::u8::u9::u10::aA aB (at_:Int)::u12::u13::u14::u15::u16::u17::u18::u19::u20::u21::u22::u23::u24::u25::u26::u27::u28::u29::u30::u31::u32::u33::u34::u35::u36::u37::u38::u39::u40::u41::u42::u43::u44::u45::u46::u47::u48::u49::u50::u51::u52::u53::u54::u55::u56::u57::u58::u59::u60::u61::u62::u63::u64::u65::u66::u67::u68::u69::u70::u71::u72::u73::u74::u75::u76::u77::u78::u79::u80::u81::u82::u83::u84::u85::u86::u87::u88::u89::u90::u91::u92::u93::u94::u95::u96::u97::u98::u99::u100::u101::u102::u103::[]).toArray,[]⟩ W:=by
 have HQ:=ah hQ;have H2:=ah h2;have AT1:=ah (show at_<=900 by omega);obtain⟨lo,Ao,uw⟩:=tQ nR hs at_ (by omega);obtain⟨hiv,Ap,vO⟩:=oU nR hs (at_+1) hat;have LT:=ah (show (l.take at_).length<=1000 by rw [aY]; omega);have Qa:=ah (show (l.take at_).length<=900 by rw [aY]; omega);have LD:=ah (show (l.drop (at_+1)).length<=1000 by rw [List.length_drop]; omega);generalize l.take at_=lt at *;generalize l.drop (at_+1)=ld at *;have SL:=ah Ao;have SH:=ah (show ∀ w,(Instr.sliceAt 30 (U so sn sc) (Z (aA aB ((at_:Int)+1))) O O).run aH w=.ok hiv w from Ap);have RL:=ah uw;have RH:=ah vO;clear hQ h2 hs Ao Ap uw vO hat hlen;have iM:=QI W.heap.size b2 b3 so sn sc at_ lo hiv lt ld;unfold XJ
 conv=>arg 2; whnf
 have nd:∀ j,(j<39\/52<=j)->∀ i,i<13->(fun i=>39+i) i≠j:=by
  intro j hj i hi h;simp only at h;omega
 refine Rg.fH 14 13 (fun i=>39+i) (fun i=>if i=0 then 5 else if i=5 then 11 else 13) (Kt W.heap.size b2 b3 so sn sc at_ lo hiv lt ld) (by kernel_rfl) (by kernel_rfl) rfl (by decide) (fun i j _ _ h=>by have h2:39+i=39+j:=h; omega) (fun i hi=>by show 39+i<104; omega) ?_ (fun _=>Rg.iY 1 (by kernel_rfl)) (fun kk o h1 h2=>by omega) ?_
 ·intro i o hi ho a x D hnd hc hD hb seen K hK;clear HQ;rcases (by omega:i=0\/i=1\/i=2\/i=3\/i=4\/i=5\/i=6\/i=7\/i=8\/i=9\/i=10\/i=11\/i=12) with rfl|rfl|rfl|rfl|rfl|rfl|rfl|rfl|rfl|rfl|rfl|rfl|rfl
  ·cases ho;exact Rg.dn rfl rfl (Rg.iI a.eval _ 30 0 #[] rfl rfl (by simp [go_sem])) (hK (U (Z ⟨x.heap.size,0,O⟩) 0 0) (x.alloc (.cells #[] 68)) ⟨x.heap.size,rfl,hb.size,dK x #[] 68⟩ ((ak _ _).alloc hb.size _) fun j u _ _ _ _ _ h=>iM j u _ _ h ((ak _ _).alloc (Nat.le_refl _) _))
  ·cases ho;have e4:a.eval (aG 4)=aj (Z ⟨b2,0,O⟩):=seen.kp 4 _ (nd 4 (by omega)) rfl;exact Rg.dn rfl rfl (Rg.dN a.eval _ 33 (aG 4) 4 rfl (by rw [e4]; simp [go_sem])) (hK _ _ rfl (ak _ _) fun _ _ _ _ _ _ _ h=>h)
  ·cases ho;have e40:a.eval (aG 40)=aj (Z ⟨b2,4,O⟩):=seen.at_ ⟨1,.data⟩ (by simp) rfl (aM (by decide));have y:=(H2.out.on hb).cell 4;simp only [ay,aC,aD] at y;exact Rg.dn rfl rfl (Rg.dW a.eval _ 30 (aG 40) rfl (by rw [e40]; simp [go_sem,y])) (hK _ _ rfl (ak _ _) fun _ _ _ _ _ _ _ h=>h)
  ·cases ho;have e11:a.eval (aG 11)=aA aB (at_:Int):=seen.kp 11 _ (nd 11 (by omega)) rfl;exact Rg.dn rfl rfl (Rg.fQ a.eval _ (aG 11) rfl x) (hK _ _ e11 (ak _ _) fun _ _ _ _ _ _ _ h=>h)
  ·cases ho;have e41:a.eval (aG 41)=U so sn sc:=seen.at_ ⟨2,.data⟩ (by simp) rfl (aM (by decide));have e42:a.eval (aG 42)=aA aB (at_:Int):=seen.at_ ⟨3,.data⟩ (by simp) rfl (aM (by decide));exact Rg.dn rfl rfl (Rg.jK a.eval _ 30 (aG 41) O (Z (aG 42)) O rfl (by show (Instr.sliceAt 30 (a.eval (aG 41)) O (Z (a.eval (aG 42))) O).run aH x=.ok lo x; rw [e41,e42]; exact SL.out x)) (hK _ _ rfl (ak _ _) fun _ _ _ _ _ _ _ h=>h)
  ·cases ho;obtain⟨g,q0,hBg,hbx⟩:=seen.at_ ⟨0,.data⟩ (by simp) rfl (aZ rfl);have q0:a.eval (aG 39)=U (Z ⟨g,0,O⟩) 0 0:=q0;have e43:a.eval (aG 43)=lo:=seen.at_ ⟨4,.data⟩ (by simp) rfl (aM (by decide));obtain⟨v',x',r,o',gr⟩:=iC nR W.heap.size hbx hBg (RL.out.on hb) LT.out 30;exact Rg.dn rfl rfl (Rg.fJ a.eval _ (aG 39) (aG 43) 30 rfl q0 e43 r) (hK v' x' o' (gr.mono hb.size) fun j u _ _ _ _ _ h=>iM j u _ _ h gr)
  ·cases ho;have e4:a.eval (aG 4)=aj (Z ⟨b2,0,O⟩):=seen.kp 4 _ (nd 4 (by omega)) rfl;exact Rg.dn rfl rfl (Rg.dN a.eval _ 33 (aG 4) 4 rfl (by rw [e4]; simp [go_sem])) (hK _ _ rfl (ak _ _) fun _ _ _ _ _ _ _ h=>h)
  ·cases ho;have e45:a.eval (aG 45)=aj (Z ⟨b2,4,O⟩):=seen.at_ ⟨6,.data⟩ (by simp) rfl (aM (by decide));have y:=(H2.out.on hb).cell 4;simp only [ay,aC,aD] at y;exact Rg.dn rfl rfl (Rg.dW a.eval _ 30 (aG 45) rfl (by rw [e45]; simp [go_sem,y])) (hK _ _ rfl (ak _ _) fun _ _ _ _ _ _ _ h=>h)
  ·cases ho;have e11:a.eval (aG 11)=aA aB (at_:Int):=seen.kp 11 _ (nd 11 (by omega)) rfl;exact Rg.dn rfl rfl (Rg.fQ a.eval _ (aG 11) rfl x) (hK _ _ e11 (ak _ _) fun _ _ _ _ _ _ _ h=>h)
  ·cases ho;have e47:a.eval (aG 47)=aA aB (at_:Int):=seen.at_ ⟨8,.data⟩ (by simp) rfl (aM (by decide));exact Rg.dn rfl rfl (Rg.PU a.eval _ .add 3 (aG 47) (.const (aA aB 1)) 3 rfl (by rw [e47]; exact add_one _ _ _ _ at_ AT1.out)) (hK _ _ rfl (ak _ _) fun _ _ _ _ _ _ _ h=>h)
  ·cases ho;have e46:a.eval (aG 46)=U so sn sc:=seen.at_ ⟨7,.data⟩ (by simp) rfl (aM (by decide));have e48:a.eval (aG 48)=aA aB ((at_:Int)+1):=seen.at_ ⟨9,.data⟩ (by simp) rfl (aM (by decide));exact Rg.dn rfl rfl (Rg.jK a.eval _ 30 (aG 46) (Z (aG 48)) O O rfl (by show (Instr.sliceAt 30 (a.eval (aG 46)) (Z (a.eval (aG 48))) O O).run aH x=.ok hiv x; rw [e46,e48]; exact SH.out x)) (hK _ _ rfl (ak _ _) fun _ _ _ _ _ _ _ h=>h)
  ·cases ho;have o44:jA x W.heap.size (a.eval (aG 44)) (lt):=seen.at_ ⟨5,.data⟩ (by simp) rfl (aZ rfl);have e49:a.eval (aG 49)=hiv:=seen.at_ ⟨10,.data⟩ (by simp) rfl (aM (by decide));have ox:kC x (a.eval (aG 49)) ld:=by rw [e49]; exact RH.out.on hb
   obtain⟨v',x',r,o',gr⟩:=fT nR W.heap.size o44 ox (by have:=Qa.out; omega) LD.out hb.size 30;exact Rg.dn rfl rfl (Rg.fJ a.eval _ (aG 44) (aG 49) 30 rfl rfl rfl r) (hK v' x' o' ((ak _ x).grown gr hb.size fun j hj=>(o44.lt j hj).1) fun j u hj dj nl nx ni h=>by
    rcases (by omega:j=0\/j=1\/j=2\/j=3\/j=4\/j=5\/j=6\/j=7\/j=8\/j=9\/j=10\/j=11\/j=12) with rfl|rfl|rfl|rfl|rfl|rfl|rfl|rfl|rfl|rfl|rfl|rfl|rfl
    ·exact absurd rfl (fun _:(0:Nat)=0=>nl (hD ⟨5,.data⟩ (by simp) rfl))
    ·exact h
    ·exact h
    ·exact h
    ·exact h
    ·exact absurd rfl (fun _:(0:Nat)=0=>nx rfl)
    ·exact h
    ·exact h
    ·exact h
    ·exact h
    ·exact h
    ·exact absurd rfl (fun _:(0:Nat)=0=>ni rfl)
    ·exact h)
  ·cases ho;have e4:a.eval (aG 4)=aj (Z ⟨b2,0,O⟩):=seen.kp 4 _ (nd 4 (by omega)) rfl;exact Rg.dn rfl rfl (Rg.dN a.eval _ 33 (aG 4) 4 rfl (by rw [e4]; simp [go_sem])) (hK _ _ rfl (ak _ _) fun _ _ _ _ _ _ _ h=>h)
 ·intro a w' df sz kp ⟨vs,hv⟩ hb;have gr:a.tmps[50]?=Z (vs 11):=(hv 11 (by omega)).1;have gp:a.tmps[51]?=Z (aj (Z ⟨b2,4,O⟩)):=by
   have h:vs 12=aj (Z ⟨b2,4,O⟩):=(hv 12 (by omega)).2 (by decide);rw [<- h];exact (hv 12 (by omega)).1
  have oR:jA w' W.heap.size (vs 11) (lt++ld):=(hv 11 (by omega)).2 (by decide);generalize vs 11=xR at *;obtain⟨ca,cp,eR⟩:=(Row.dw oR).len;have hbx:=H2.out.on hb;have hblt:=H2.out.lt;have c5:=hbx.cell 4;have f5:=hbx.fr 4;simp only [ay,aC,aD] at c5;have hb1:=dO (k:=4) hbx xR;show Rg.fA _ _ _ 1 13 a w';simp only [Rg.fA];refine Rg.fI 30 (aG 51) (aG 50) rfl rfl rfl rfl (Rg.dH gp) (Rg.dH gr) (w':=w'.setCell ⟨b2,4,O⟩ xR) (by rw [eR]; simp [go_sem,c5,f5]) ?_;have q8:∀ j,(j<39\/52<=j)->a.tmps[j]?=(u0::u1::u2::u3::aj (Z ⟨b2,0,O⟩)::aj (Z ⟨b3,0,O⟩)::u6::u7::u8::u9::u10::aA aB (at_:Int)::u12::u13::u14::u15::u16::u17::u18::u19::u20::u21::u22::u23::u24::u25::u26::u27::u28::u29::u30::u31::u32::u33::u34::u35::u36::u37::u38::u39::u40::u41::u42::u43::u44::u45::u46::u47::u48::u49::u50::u51::u52::u53::u54::u55::u56::u57::u58::u59::u60::u61::u62::u63::u64::u65::u66::u67::u68::u69::u70::u71::u72::u73::u74::u75::u76::u77::u78::u79::u80::u81::u82::u83::u84::u85::u86::u87::u88::u89::u90::u91::u92::u93::u94::u95::u96::u97::u98::u99::u100::u101::u102::u103::[])[j]?:=fun j hj=>(kp j (nd j hj)).trans ay;obtain⟨mid,hmid,rfl⟩:=Rg.fU 39 13 df sz (by simp) q8
  match mid,hmid with
  | [v39,v40,v41,v42,v43,v44,v45,v46,v47,v48,v49,v50,v51],_ =>
   have e1:Z v50=Z xR:=gr;obtain rfl:=Option.some.inj e1;refine HQ.out _ v39 v40 v41 v42 v43 v44 v45 v46 v47 v48 v49 v50 v51 ?_ ?_ ?_ ?_ ?_
   ·simpa using hb1
   ·exact dY oR b2 4 _ hblt
   ·exact fun B hB=>(hb.mono (Nat.le_of_lt (Nat.lt_of_le_of_lt hB hblt))).setCell hB _
   ·intro c cs t hc hbc;exact (aF _ _ _ _ hc).trans (hbc.on hb)
   ·intro k hk hne;exact (aF _ _ _ _ hne).trans (hb.block k hk)
end Bk
namespace Rl
open Go.RowKit Pu Rw Pr Va
def Ku (n:ByteArray) (r:Option Kd) (w:J) (e:Ending) (w':J):Prop:=(∃ c,e=.returned (.tuple #[cv c,bf r.isSome])/\∀ k,r=Z k->c=r5 (n,k))/\aV w.heap.size w w'
theorem DK {n:ByteArray} {w w':J} (c:C5) (h:aV w.heap.size w w'):Ku n O w (.returned (.tuple #[cv c,bf aX])) w':=⟨⟨c,rfl,fun _ h=>by cases h⟩,h⟩
theorem aaF {n:ByteArray} {w w':J} (b:Bool) (k:Kd) (h:aV w.heap.size w w'):Ku n (if b=aW then Z k else O) w (.returned (.tuple #[cv (r5 (n,k)),bf b])) w':=by
 cases b
 ·exact⟨⟨_,rfl,fun _ h=>by cases h⟩,h⟩
 ·exact⟨⟨_,rfl,fun _ h=>by rw [<- Option.some.inj h]⟩,h⟩
theorem QJ (n:ByteArray) (lo1 hi1:Int) (u2:ByteArray) (w:J):bn aH 109 #[cv (r5 (n,(.rg lo1 hi1))),cv (r5 (n,(.tx u2)))] w (Ku n (eY (.rg lo1 hi1) (.tx u2)) w):=by
 have R:=ah (show eY (.rg lo1 hi1) (.tx u2)=O from rfl);rw [R.out];clear R;simp only [r5,kN,jh,ji,kT];have B:=ah (rC w n 1 lo1 hi1 ⟨#[]⟩ n 2 0 0 u2);go_enter aS,aP;go_wp2;exact aL (v:=.tuple #[cv (n,1,lo1,hi1,⟨#[]⟩),bf aX]) (by simp [results,aK,go_sem]) rfl (DK (n,1,lo1,hi1,⟨#[]⟩) (by first | exact B.out.alloc B.out.size _ | exact (((((B.out.alloc B.out.size _).setCell (by simp) _).setCell (by simp) _).setCell (by simp) _).setCell (by simp) _).setCell (by simp) _))
theorem QK (n:ByteArray) (lo1 hi1:Int) (u2:ByteArray) (w:J):bn aH 109 #[cv (r5 (n,(.rg lo1 hi1))),cv (r5 (n,(.pr u2)))] w (Ku n (eY (.rg lo1 hi1) (.pr u2)) w):=by
 have R:=ah (show eY (.rg lo1 hi1) (.pr u2)=O from rfl);rw [R.out];clear R;simp only [r5,kN,jh,ji,kT];have B:=ah (rC w n 1 lo1 hi1 ⟨#[]⟩ n 3 0 0 u2);go_enter aS,aP;go_wp2;exact aL (v:=.tuple #[cv (n,1,lo1,hi1,⟨#[]⟩),bf aX]) (by simp [results,aK,go_sem]) rfl (DK (n,1,lo1,hi1,⟨#[]⟩) (by first | exact B.out.alloc B.out.size _ | exact (((((B.out.alloc B.out.size _).setCell (by simp) _).setCell (by simp) _).setCell (by simp) _).setCell (by simp) _).setCell (by simp) _))
theorem QL (n:ByteArray) (u1:ByteArray) (lo2 hi2:Int) (w:J):bn aH 109 #[cv (r5 (n,(.tx u1))),cv (r5 (n,(.rg lo2 hi2)))] w (Ku n (eY (.tx u1) (.rg lo2 hi2)) w):=by
 have R:=ah (show eY (.tx u1) (.rg lo2 hi2)=O from rfl);rw [R.out];clear R;simp only [r5,kN,jh,ji,kT];have B:=ah (rC w n 2 0 0 u1 n 1 lo2 hi2 ⟨#[]⟩);go_enter aS,aP;go_wp2;exact aL (v:=.tuple #[cv (n,2,0,0,u1),bf aX]) (by simp [results,aK,go_sem]) rfl (DK (n,2,0,0,u1) (by first | exact B.out.alloc B.out.size _ | exact (((((B.out.alloc B.out.size _).setCell (by simp) _).setCell (by simp) _).setCell (by simp) _).setCell (by simp) _).setCell (by simp) _))
theorem QM (n:ByteArray) (u1:ByteArray) (lo2 hi2:Int) (w:J):bn aH 109 #[cv (r5 (n,(.pr u1))),cv (r5 (n,(.rg lo2 hi2)))] w (Ku n (eY (.pr u1) (.rg lo2 hi2)) w):=by
 have R:=ah (show eY (.pr u1) (.rg lo2 hi2)=O from rfl);rw [R.out];clear R;simp only [r5,kN,jh,ji,kT];have B:=ah (rC w n 3 0 0 u1 n 1 lo2 hi2 ⟨#[]⟩);go_enter aS,aP;go_wp2;exact aL (v:=.tuple #[cv (n,3,0,0,u1),bf aX]) (by simp [results,aK,go_sem]) rfl (DK (n,3,0,0,u1) (by first | exact B.out.alloc B.out.size _ | exact (((((B.out.alloc B.out.size _).setCell (by simp) _).setCell (by simp) _).setCell (by simp) _).setCell (by simp) _).setCell (by simp) _))
end Rl
namespace Rg
open Go.RowKit Rw
end Rg
namespace Rg
open Go.RowKit Rw
structure XK (i N A S:Nat) (d last:Nat->Nat) (V:Nat->au->J->Prop) (base:bD) (o:Oper) (a:bD) (x:J):Prop where
 kp:∀ j u,(∀ i,i<N->d i≠j)->base.tmps[j]?=Z u->a.eval (aG j)=u
 at_:∀ e∈o.after,aI .any e=aW->e.on≠A->e.on≠S->(last e.on=i\/N<=last e.on)->V e.on (a.eval (aG (d e.on))) x
structure InX (l:List Oper) (N A S C:Nat) (d last:Nat->Nat) (V:Nat->au->J->Prop) (t:aR) (zero:Array au) (cof:au->Array au) (base:bD) (W:J) (L:Array Bool) (a:bD) (x:J):Prop where
 cl:∀ i o,done L i->l[i]?=Z o->∀ e∈o.after,aI .any e=aW->done L e.on
 no:∀ i,N<=i->¬ done L i
 df:a.defers=base.defers
 sz:a.tmps.size=base.tmps.size
 kp:∀ j,(∀ i,i<N->d i≠j)->a.tmps[j]?=base.tmps[j]?
 sW:aV W.heap.size W x
 val:∃ vs:Nat->au,∀ i,i<N->i≠S->done L i->a.tmps[d i]?=Z (vs i)/\(i≠A->¬ done L (last i)->V i (vs i) x)
 box:done L A->¬ done L S->∃ bb,a.tmps[d A]?=Z (aj (Z ⟨bb,0,O⟩))/\W.heap.size<=bb/\dI x bb zero t
 fin:done L S->∃ bb v,a.tmps[d A]?=Z (aj (Z ⟨bb,0,O⟩))/\a.tmps[d C]?=Z v/\W.heap.size<=bb/\dI x bb (cof v) t/\V C v x
theorem vY {P:Program} {Q:Exit->bD->J->Prop} {id:Nat} {base:bD} {W:J} {l:List Oper} (N A S C:Nat) (d last:Nat->Nat) (V:Nat->au->J->Prop) (t:aR) (zero:Array au) (cof:au->Array au)
  (hm:P.follows .mixedOrders=aW) (hf:M6 l.toArray=aW) (hN:l.length=N) (hA:A<N) (hS:S<N) (hC:C<N) (hAS:A≠S) (hCS:C≠S) (hAC:A≠C) (hlC:N<=last C)
  (hinj:∀ i j,i<N->j<N->i≠S->j≠S->d i=d j->i=j) (hs:∀ i,i<N->d i<base.tmps.size)
  (hV:∀ i v x x',i<N->V i v x->aV x.heap.size x x'->V i v x')
  (hw:∀ o,l[S]?=Z o->(∃ e∈o.after,aI .any e=aW/\e.on=A)/\∃ e∈o.after,aI .any e=aW/\e.on=C)
  (hop:∀ i o,i<N->i≠A->i≠S->l[i]?=Z o->∀ a x,aV W.heap.size W x->XK i N A S d last V base o a x->∀ K:bD->J->Prop,(∀ v x',V i v x'->aV x.heap.size x x'->K (a.put (Z (d i)) v) x')->wpOp P l.toArray Q i K a x)
  (hoA:∀ o,l[A]?=Z o->∀ a x,∀ K:bD->J->Prop,K (a.put (Z (d A)) (aj (Z ⟨x.heap.size,0,O⟩))) (x.alloc (.cells zero t))->wpOp P l.toArray Q A K a x)
  (hoS:∀ o,l[S]?=Z o->∀ a x bb v (D:Nat->Prop),(∀ j oj,D j->l[j]?=Z oj->∀ e∈oj.after,aI .any e=aW->D e.on)->(∀ e∈o.after,aI .any e=aW->D e.on)->aV W.heap.size W x->a.eval (aG (d A))=aj (Z ⟨bb,0,O⟩)->a.eval (aG (d C))=v->V C v x->W.heap.size<=bb->dI x bb zero t->∀ K:bD->J->Prop,(∀ x',aV W.heap.size W x'->dI x' bb (cof v) t->(∀ j u,j<N->j≠A->j≠S->D j->¬ D (last j)->last j≠S->V j u x->V j u x')->K a x')->wpOp P l.toArray Q S K a x)
  (hend:∀ a x bb v,a.defers=base.defers->a.tmps.size=base.tmps.size->(∀ j,(∀ i,i<N->d i≠j)->a.tmps[j]?=base.tmps[j]?)->a.tmps[d A]?=Z (aj (Z ⟨bb,0,O⟩))->a.tmps[d C]?=Z v->W.heap.size<=bb->dI x bb (cof v) t->V C v x->aV W.heap.size W x->(∃ vs:Nat->au,∀ i,i<N->i≠S->i≠A->a.tmps[d i]?=Z (vs i)/\(N<=last i->V i (vs i) x))->Q .normal a x):(Code.region id l.toArray aW).wp P Q base W:=by
 refine qI (fun L a x=>InX l N A S C d last V t zero cof base W L a x) hm hf ?_ ?_ ?_
 ·exact⟨fun i o h=>absurd h (gB _ _),fun i _=>gB _ _,rfl,rfl,fun _ _=>rfl,(ak _ _).drew,⟨fun _=>.bool aW,fun i _ _ h=>absurd h (gB _ _)⟩,fun h=>absurd h (gB _ _),fun h=>absurd h (gB _ _)⟩
 ·intro L a x i o hsz I ho hnd nN;have hi:i<l.length:=(aN.1 ho).1;have hiN:i<N:=by omega
  have Am:i<L.size:=by omega
  obtain⟨vs,hvs⟩:=I.val;have hon:∀ e∈o.after,aI .any e=aW->e.on<i:=fun e he hb=>by
   have h7:=List.all_eq_true.1 hf i (List.mem_range.2 (by simpa using hi));have ho':(l.toArray)[i]?=Z o:=by simpa using ho
   rw [ho'] at h7;have h8:=Array.all_eq_true'.1 h7 e he;rw [hb] at h8;simpa using h8
  have dd:∀ {k},k≠i->done (L.setIfInBounds i aW) k->done L k:=fun {k} h h5=>((gT Am k).1 h5).resolve_left h;have du:∀ {k},done L k->done (L.setIfInBounds i aW) k:=fun {k} h=>(gT Am k).2 (aM h);have cl':∀ k q,done (L.setIfInBounds i aW) k->l[k]?=Z q->∀ e∈q.after,aI .any e=aW->done (L.setIfInBounds i aW) e.on:=fun k q hk hq e he hb=>by
   by_cases e2:k=i
   ·subst e2;rw [hq] at ho;cases ho;exact du (nN e he hb)
   ·exact du (I.cl k q (dd e2 hk) hq e he hb)
  have no':∀ k,N<=k->¬ done (L.setIfInBounds i aW) k:=fun k hk h=>I.no k hk (dd (by omega) h);have seen:XK i N A S d last V base o a x:=⟨fun j u hj hu=>dH (by rw [I.kp j hj]; exact hu),fun e he hb hA' hS' hl=>by
   obtain⟨h1,h2⟩:=hvs e.on (by have:=hon e he hb; omega) hS' (nN e he hb);rw [dH h1];refine h2 hA' ?_;rcases hl with hl|hl
   ·rw [hl]; exact hnd
   ·exact I.no _ hl⟩
  have acs:i≠S->∀ v x',aV x.heap.size x x'->(i≠A->V i v x')->(i=A->∃ bb,v=aj (Z ⟨bb,0,O⟩)/\W.heap.size<=bb/\dI x' bb zero t)->InX l N A S C d last V t zero cof base W (L.setIfInBounds i aW) (a.put (Z (d i)) v) x':=by
   intro Pz v x' hb hpv hpa;have self:(a.put (Z (d i)) v).tmps[d i]?=Z v:=by
    have h5:d i<a.tmps.size:=by rw [I.sz]; exact hs i hiN
    simp [Act.put,h5]
   have keep:∀ k,k<N->k≠S->k≠i->(a.put (Z (d i)) v).tmps[d k]?=a.tmps[d k]?:=fun k hk VU hki=>get_put _ _ _ _ (fun e=>hki (hinj _ _ hk hiN VU Pz e));refine⟨cl',no',I.df,by rw [size_put]; exact I.sz,fun j hj=>?_,I.sW.trans (hb.mono I.sW.size),⟨fun k=>if k=i then v else vs k,fun k hk VU hdn=>?_⟩,fun h1 h2=>?_,fun h1=>?_⟩
   ·rw [get_put _ _ _ _ (fun e=>hj i hiN e.symm)];exact I.kp j hj
   ·by_cases e:k=i
    ·subst e;simp only [if_true];exact⟨self,fun h3 _=>hpv h3⟩
    ·simp only [if_neg e];obtain⟨h3,h4⟩:=hvs k hk VU (dd e hdn);exact⟨by rw [keep k hk VU e]; exact h3,fun h5 h6=>hV k _ _ _ hk (h4 h5 (fun h=>h6 (du h))) hb⟩
   ·by_cases e:A=i
    ·subst e;obtain⟨bb,rfl,h4,h5⟩:=hpa rfl;exact⟨bb,self,h4,h5⟩
    ·obtain⟨bb,h3,h4,h5⟩:=I.box (dd e h1) (fun h=>h2 (du h));exact⟨bb,by rw [keep A hA hAS e]; exact h3,h4,h5.on hb⟩
   ·have h2:=dd (Ne.symm Pz) h1;obtain⟨bb,u,h5,h6,h7,h8,h9⟩:=I.fin h2;obtain⟨oS,aaG⟩:∃ oS,l[S]?=Z oS:=⟨_,aO (by omega)⟩;obtain⟨⟨ea,k1,k2,k3⟩,ec,k4,k5,k6⟩:=hw oS aaG;have dA:=I.cl S oS h2 aaG ea k1 k2;have dC:=I.cl S oS h2 aaG ec k4 k5;rw [k3] at dA;rw [k6] at dC;have eA:A≠i:=fun e=>hnd (e ▸ dA);have eC:C≠i:=fun e=>hnd (e ▸ dC);exact⟨bb,u,by rw [keep A hA hAS eA]; exact h5,by rw [keep C hC hCS eC]; exact h6,h7,h8.on hb,hV C _ _ _ hC h9 hb⟩
  by_cases Pz:i=S
  ·subst Pz;obtain⟨⟨ea,h1,h2,h3⟩,ec,h4,h5,h6⟩:=hw o ho;have dA:=nN ea h1 h2;have dC:=nN ec h4 h5;rw [h3] at dA;rw [h6] at dC;obtain⟨v1,v2⟩:=hvs C hC hCS dC;obtain⟨bb,b1,b2,b3⟩:=I.box dA hnd;have vC:=v2 (Ne.symm hAC) (I.no _ hlC);refine hoS o ho a x bb (vs C) (done L) I.cl nN I.sW (dH b1) (dH v1) vC b2 b3 _ (fun x' q1 q2 q3=>⟨cl',no',I.df,I.sz,I.kp,q1,⟨vs,fun k hk VU hdn=>?_⟩,fun _ hn=>absurd ((gT Am _).2 (aZ rfl)) hn,fun _=>⟨bb,vs C,b1,v1,b2,q2,?_⟩⟩)
   ·obtain⟨w1,w2⟩:=hvs k hk VU (dd VU hdn);refine⟨w1,fun hkA hnl=>?_⟩;have n1:last k≠i:=fun e=>hnl ((gT Am _).2 (aZ e));have n2:¬ done L (last k):=fun e=>hnl (du e);exact q3 k _ hk hkA VU (dd VU hdn) n2 n1 (w2 hkA n2)
   ·exact q3 C _ hC (Ne.symm hAC) hCS dC (I.no _ hlC) (by omega) vC
  ·by_cases XM:i=A
   ·subst XM;refine hoA o ho a x _ (acs Pz _ _ ((ak _ _).alloc (Nat.le_refl _) _) (fun h=>absurd rfl h) (fun _=>⟨x.heap.size,rfl,I.sW.size,dK x zero t⟩))
   ·refine hop i o hiN XM Pz ho a x I.sW seen _ (fun v x' q1 q2=>acs Pz v x' q2 (fun _=>q1) (fun e=>absurd e XM))
 ·intro L a x I hd;have dS:=hd S (by omega);obtain⟨bb,v,h1,h2,h3,h4,h5⟩:=I.fin dS;obtain⟨vs,hvs⟩:=I.val;exact hend a x bb v I.df I.sz I.kp h1 h2 h3 h4 h5 I.sW ⟨vs,fun i hi Pz XM=>by
   obtain⟨k1,k2⟩:=hvs i hi Pz (hd i (by omega));exact⟨k1,fun hl=>k2 XM (I.no _ hl)⟩⟩
end Rg
end Go.Proofs.YtkcfgbddlpomgaaGreat
