/-
  copyAdvert of packag. Conditions as told.
-/
import Derived.Test.YtmklifheakemeaaGreatfe011
import Derived.Test.YtmklifheakemeaaGreatfe012
set_option maxRecDepth 100000
set_option maxHeartbeats 64000000
open _root_.Bool renaming false->aC,true->bK
open _root_.Go renaming World->aj,Value->aA,TypeId->aY,Calls->bG
open Go.Builtin renaming copy_->aU,append_->bI
open Go.Ending renaming returned->aJ
open Go.Instr renaming sliceAt->ay,storeAt->bf
open Go.IntKind renaming i64->Z,wrap_i64->bF
open Go.Lib renaming hid->J,toList_data->bH
open Go.Obj renaming cells->au
open Go.Proofs.Tryz renaming prog->ah,ntmps116->aF,func116->aH,ntmps147->bg,func147->bn
open Go.RowKit.Below renaming refl->aD,heap_setCell->aQ
open Go.Value renaming slice->D,int->V,string->ak,pointer->bL,bool->bP
open _root_.List renaming getElem?_eq_getElem->aB,getElem?_map->aG,set_cons_succ->aI,getElem?_cons_zero->aK,getElem?_cons_succ->aL,getElem?_toArray->aM,length_map->aN,getElem?_eq_some_iff->aR,take_add_one->aT,cons_append->aV,nil_append->aW,length_set->aX,take_length->bD,length->bM
open _root_.Nat renaming lt_or_ge->aP,le_refl->aS,zero_le->aZ
open _root_.Option renaming none->O,some->U
open Option.some renaming inj->aO
namespace Go.Proofs.YtmklifheakemeaaGreat
namespace Av
open Go.RowKit Go.Sort Rw YtmklifheakemeaaGreat.Nm Pr Bk
abbrev SI (W:aj) (b:Nat) (a0 a1 a2 a3:aA):aj:=(((W.setCell ⟨b,0,O⟩ a0).setCell ⟨b,1,O⟩ a1).setCell ⟨b,2,O⟩ a2).setCell ⟨b,3,O⟩ a3
theorem Az {W:aj} {b:Nat} {t:aY} {z0 z1 z2 z3:aA} (h:dK W b #[z0,z1,z2,z3] t) (a0 a1 a2 a3:aA):dK (SI W b a0 a1 a2 a3) b #[a0,a1,a2,a3] t:=by
 have h2:=dW (k:=3) (dW (k:=2) (dW (k:=1) (dW (k:=0) h a0) a1) a2) a3;simpa using h2
theorem vW {B:Nat} {W0 W:aj} {b:Nat} (h:Below B W0 W) (hb:B<=b) (a0 a1 a2 a3:aA):Below B W0 (SI W b a0 a1 a2 a3) :=
 (((h.setCell (p:=⟨b,0,O⟩) hb a0).setCell (p:=⟨b,1,O⟩) hb a1).setCell (p:=⟨b,2,O⟩) hb a2).setCell (p:=⟨b,3,O⟩) hb a3
theorem Ig {α:Type} {E:Ek α} {W:aj} {B:Nat} {v:aA} {l:List α} (h:Own E W B v l) (b:Nat) (hb:b<B) (a0 a1 a2 a3:aA):Own E (SI W b a0 a1 a2 a3) B v l :=
 eF (eF (eF (eF h b 0 a0 hb) b 1 a1 hb) b 2 a2 hb) b 3 a3 hb
theorem AA (x:jD) (p:List C5) (w:aj) (hp:fI w (dU x.2.2.1) p) (hl:p.length<=900) :
  bG ah 79 #[mJ x] w fun e w'=>(∃ v':Sl,e=aJ (mJ (x.1,x.2.1,v',x.2.2.2))/\gT w' w.heap.size (dU v') p)/\Below w.heap.size w w':=by
 obtain⟨a,b,⟨s1,s2,s3⟩,q⟩:=x;obtain⟨h0,X,Y⟩:=gP w #[V Z a,V Z b,D s1 s2 s3,V Z q] #[V Z 0,V Z 0,D O 0 0,V Z 0] 74 74;have C:=J (mW (s1,s2,s3) p _ (hp.on h0) hl);have B:=J h0;have x2:=X.cell 2;simp only [aM,aK,aL] at x2;have X:=J X;have Y:=J Y;clear h0 hp hl;go_enter Tryz.func79,Tryz.ntmps79;go_wp2_with fail;generalize (w.alloc (au #[V Z a,V Z b,D s1 s2 s3,V Z q] 74)).alloc (au #[V Z 0,V Z 0,D O 0 0,V Z 0] 74)=W at *;refine C.out.mono ?_;rintro e w1 ⟨⟨⟨u1,u2,u3⟩,rfl,ho⟩,hb⟩;have X1:=X.out.on hb;have Y1:=Y.out.on hb;have hs:w.heap.size<W.heap.size:=X.out.lt;have O1:=J (eF ho w.heap.size 2 (D u1 u2 u3) hs);have XB:=J (show dK _ _ #[V Z a,V Z b,D u1 u2 u3,V Z q] _ from by simpa using dW (k:=2) X1 (D u1 u2 u3));have YB:=J (show dK _ _ _ _ from (aQ w1 ⟨w.heap.size,2,O⟩ (D u1 u2 u3) _ (show w.heap.size+1≠w.heap.size by omega)).trans Y1);have B1:=J ((B.out.trans (hb.mono B.out.size)).setCell (p:=⟨w.heap.size,2,O⟩) (aS _) (D u1 u2 u3));have y2:=X1.cell 2;have f2:=X1.fr 2;have z2:=X1.lt;simp only [aM,aK,aL] at y2;clear X1 Y1 ho hb x2 C;go_upto_region 2 with fail;clear y2 f2 z2;generalize w1.setCell ⟨w.heap.size,2,O⟩ (D u1 u2 u3)=w2 at *;obtain⟨x0,x1,x2,x3⟩:=XB.out.xQ;obtain⟨r0,r1,r2,r3⟩:=YB.out.xQ;obtain⟨t0,t1,t2,t3⟩:=YB.out.fs4;have zz:=YB.out.lt;have hs2:w.heap.size+1<W.heap.size:=Y.out.lt;have FB:=J (Az YB.out (V Z a) (V Z b) (D u1 u2 u3) (V Z q));have BL:=J (vW (b:=w.heap.size+1) B1.out (by omega) (V Z a) (V Z b) (D u1 u2 u3) (V Z q));have FO:=J (Ig O1.out (w.heap.size+1) hs2 (V Z a) (V Z b) (D u1 u2 u3) (V Z q));have HS:=J hs;clear hs hs2;go_wp2_with fail;obtain⟨v0,v1,v2,v3⟩:=FB.out.xQ;refine bodyPost_ret (v:=.agg #[V Z a,V Z b,D u1 u2 u3,V Z q]) (by simp [results,Tryz.results79,go_sem,v0,v1,v2,v3]) rfl ?_;exact⟨⟨(u1,u2,u3),rfl,dO FO.out (Nat.le_of_lt HS.out)⟩,BL.out⟩
theorem jE {α:Type} {E:Ek α} (K:E.Ok) {W:aj} {B g n cap k:Nat} {l:List α} {x:α} (h:Own E W B (D (U ⟨g,0,O⟩) n cap) l) (hk:l[k]?=U x):∀ w,Below W.heap.size W w->∀ j u,(E.cells x)[j]?=U u->w.cell? ((⟨g,k * E.n,O⟩:Addr).add j)=U u:=by
 obtain⟨ao,c,hv⟩:=(Row.dH h).len;obtain⟨rfl,rfl,rfl⟩:U ⟨g,0,O⟩=ao/\n=l.length/\cap=c:=by simpa using hv
 obtain⟨p,h1,_,h2⟩:=nP K (Row.dH h) rfl rfl hk;have h3:=lC K g k l.length cap (aR.1 hk).1 W;rw [h1] at h3;injection h3 with h4 _
 injection h4 with h5
 injection h5 with h6
 subst h6;exact h2
theorem jJ {α:Type} {E:Ek α} {W:aj} {B g n cap:Nat} {l:List α} (h:Own E W B (D (U ⟨g,0,O⟩) n cap) l):∃ cur,dK W g cur E.t:=by
 rcases gM h with⟨h1,_⟩|⟨g',c',cur,h1,_,h2,_⟩
 ·cases h1
 ·obtain⟨rfl,_⟩:g=g'/\True:=by simp at h1; exact⟨h1.1,trivial⟩
  exact⟨cur,h2⟩
theorem qy {W:aj} {b g:Nat} {c d:Array aA} {s t:aY} (hb:dK W b c s) (hg:dK W g d t) (hne:(s == t)=aC):b≠g:=by
 rintro rfl;unfold dK at hb hg;rw [hb] at hg;injection hg with h
 injection h with _ h2
 rw [h2] at hne;simp at hne
def But (g:Nat) (W x:aj):Prop:=(∀ k,k<W.heap.size->k≠g->x.heap[k]?=W.heap[k]?)/\W.heap.size<=x.heap.size
theorem But.box {g b:Nat} {W x:aj} {cs:Array aA} {t:aY} (h:But g W x) (hb:dK W b cs t) (hne:b≠g):dK x b cs t:=(h.1 b hb.lt hne).trans hb
theorem But.own {α:Type} {E:Ek α} {g:Nat} {W x:aj} {B:Nat} {v:aA} {l:List α} {d:Array aA} {t:aY} (h:But g W x) (ho:Own E W B v l) (hg:dK W g d t) (hne:(E.t == t)=aC):Own E x B v l:=by
 refine⟨ho.1,?_⟩;rcases ho.2 with h2|⟨g',cap,cur,h1,h2,h3,h4⟩
 ·exact Or.inl h2
 ·exact Or.inr ⟨g',cap,cur,h1,h2,by rw [h.1 g' (lt_of_heap h3) (qy (show dK W g' cur E.t from h3) hg hne)]; exact h3,h4⟩
theorem xZ:∀ (l:List jD) (k:Nat) (x:jD),k<l.length->flat ED (l.set k x)=((((flat ED l).set (k * 4) (V Z x.1)).set (k * 4+1) (V Z x.2.1)).set (k * 4+2) (dU x.2.2.1)).set (k * 4+3) (V Z x.2.2.2)
 | [],k,x,h=>by simp at h
 | y::r,0,x,_=>rfl
 | y::r,k+1,x,h=>by
  have ih:=xZ r k x (by simpa using h);rw [show (k+1) * 4+3=(k * 4+3)+1+1+1+1 by omega,show (k+1) * 4+2=(k * 4+2)+1+1+1+1 by omega,show (k+1) * 4+1=(k * 4+1)+1+1+1+1 by omega,show (k+1) * 4=(k * 4)+1+1+1+1 by omega];simp only [aI,flat,ED,cellsD,aV,aW] at ih ⊢;rw [ih]
theorem DT:∀ (l:List iq) (k:Nat) (x:iq) (s:Sl),l[k]?=U x->flat EN (l.set k (x.1,x.2.1,x.2.2.1,x.2.2.2.1,s,x.2.2.2.2.2.1,x.2.2.2.2.2.2))=(flat EN l).set (k * 7+4) (dU s)
 | [],k,x,s,h=>by simp at h
 | y::r,0,x,s,h=>by
  obtain rfl:y=x:=by simpa using h
  rfl
 | y::r,k+1,x,s,h=>by
  have ih:=DT r k x s (by simpa using h);rw [show (k+1) * 7+4=(k * 7+4)+1+1+1+1+1+1+1 by omega];simp only [aI,flat,EN,iH,aV,aW] at ih ⊢;rw [ih]
theorem DU:∀ (l:List qM) (k:Nat) (x:qM) (s:Sl),l[k]?=U x->flat EW (l.set k (x.1,x.2.1,s))=(flat EW l).set (k * 3+2) (dU s)
 | [],k,x,s,h=>by simp at h
 | y::r,0,x,s,h=>by
  obtain rfl:y=x:=by simpa using h
  rfl
 | y::r,k+1,x,s,h=>by
  have ih:=DU r k x s (by simpa using h);rw [show (k+1) * 3+2=(k * 3+2)+1+1+1 by omega];simp only [aI,flat,EW,vU,aV,aW] at ih ⊢;rw [ih]
def KO {α:Type} (E:Ek α) (B g:Nat) (v:aA) (l:List α) (w w':aj):Prop:=Own E w' B v l/\But g w w'/\(∀ B' W,B'<=g->Below B' W w->Below B' W w')
theorem dP (w:aj) (g j:Nat) (u:aA):But g w (w.setCell ⟨g,j,O⟩ u):=⟨fun k _ hk=>aQ w ⟨g,j,O⟩ u k hk,by simp⟩
theorem But.trans {g:Nat} {a b c:aj} (h1:But g a b) (h2:But g b c):But g a c:=⟨fun k hk hne=>(h2.1 k (Nat.lt_of_lt_of_le hk h1.2) hne).trans (h1.1 k hk hne),Nat.le_trans h1.2 h2.2⟩
theorem But.of_below {g:Nat} {a b:aj} (h:Below a.heap.size a b):But g a b:=⟨fun k hk _=>h.block k hk,h.size⟩
theorem acH {w:aj} {B g n cap k:Nat} {l:List jD} (x:jD) (h:lZ w B (D (U ⟨g,0,O⟩) n cap) l) (hk:k<l.length) :
  ∃ w',(bf 74 (bL (U ⟨g,k * 4,O⟩)) (mJ x)).run ah w=.ok () w'/\KO ED B g (D (U ⟨g,0,O⟩) n cap) (l.set k x) w w':=by
 obtain⟨y,hy⟩:∃ y,l[k]?=U y:=⟨_,aB hk⟩;have c:=jE okD h hy w (aD _ _);have c0:=c 0 _ rfl;have c1:=c 1 _ rfl;have c2:=c 2 _ rfl;have c3:=c 3 _ rfl;simp [Addr.add,ED] at c0 c1 c2 c3;obtain⟨cur,hb⟩:=jJ h;have f:=fun j=>hb.fr j;obtain⟨ao,c',hv⟩:=(Row.dH h).len;obtain⟨_,rfl,_⟩:U ⟨g,0,O⟩=ao/\n=l.length/\cap=c':=by simpa using hv
 have h:w.ownsRow B 74 4 (D (U ⟨g,0,O⟩) l.length cap) l.length (flat ED l):=h;have s1:=(h.stored (k * 4) (V Z x.1)).1;have s2:=(s1.stored (k * 4+1) (V Z x.2.1)).1;have s3:=(s2.stored (k * 4+2) (dU x.2.2.1)).1;have s4:=(s3.stored (k * 4+3) (V Z x.2.2.2)).1;refine⟨(((w.setCell ⟨g,k * 4,O⟩ (V Z x.1)).setCell ⟨g,k * 4+1,O⟩ (V Z x.2.1)).setCell ⟨g,k * 4+2,O⟩ (dU x.2.2.1)).setCell ⟨g,k * 4+3,O⟩ (V Z x.2.2.2),?_,?_,((dP _ g _ _).trans (dP _ g _ _)).trans ((dP _ g _ _).trans (dP _ g _ _)),fun B' W hB hb=>(((hb.setCell (p:=⟨g,_,O⟩) hB _).setCell (p:=⟨g,_,O⟩) hB _).setCell (p:=⟨g,_,O⟩) hB _).setCell (p:=⟨g,_,O⟩) hB _⟩
 ·simp [go_sem,c0,c1,c2,c3,f]
 ·have e:=xZ l k x hk;show World.ownsRow _ B 74 4 _ (l.set k x).length (flat ED (l.set k x));rw [e,aX];exact s4
theorem acI {w:aj} {B g n cap k:Nat} {l:List iq} {x:iq} (s1:Option Addr) (s2 s3:Nat) (h:jV w B (D (U ⟨g,0,O⟩) n cap) l) (hk:l[k]?=U x) :
  ∃ w',(bf 32 (bL (U ⟨g,k * 7+4,O⟩)) (D s1 s2 s3)).run ah w=.ok () w'/\KO EN B g (D (U ⟨g,0,O⟩) n cap) (l.set k (x.1,x.2.1,x.2.2.1,x.2.2.2.1,(s1,s2,s3),x.2.2.2.2.2.1,x.2.2.2.2.2.2)) w w':=by
 have c:=jE nO h hk w (aD _ _);have c4:=c 4 _ rfl;simp [Addr.add,EN] at c4;obtain⟨cur,hb⟩:=jJ h;have f:=hb.fr (k * 7+4);obtain⟨ao,c',hv⟩:=(Row.dH h).len;obtain⟨_,rfl,_⟩:U ⟨g,0,O⟩=ao/\n=l.length/\cap=c':=by simpa using hv
 have h:w.ownsRow B 66 7 (D (U ⟨g,0,O⟩) l.length cap) l.length (flat EN l):=h;have t1:=(h.stored (k * 7+4) (D s1 s2 s3)).1;refine⟨w.setCell ⟨g,k * 7+4,O⟩ (D s1 s2 s3),by simp [go_sem,c4,f],?_,dP _ g _ _,fun B' W hB hb=>hb.setCell (p:=⟨g,_,O⟩) hB _⟩;have e:=DT l k x (s1,s2,s3) hk;show World.ownsRow _ B 66 7 _ (bM _) (flat EN _);rw [e,aX];exact t1
theorem acJ {w:aj} {B g n cap k:Nat} {l:List qM} {x:qM} (s1:Option Addr) (s2 s3:Nat) (h:qN w B (D (U ⟨g,0,O⟩) n cap) l) (hk:l[k]?=U x) :
  ∃ w',(bf 32 (bL (U ⟨g,k * 3+2,O⟩)) (D s1 s2 s3)).run ah w=.ok () w'/\KO EW B g (D (U ⟨g,0,O⟩) n cap) (l.set k (x.1,x.2.1,(s1,s2,s3))) w w':=by
 have c:=jE okW h hk w (aD _ _);have c2:=c 2 _ rfl;simp [Addr.add,EW] at c2;obtain⟨cur,hb⟩:=jJ h;have f:=hb.fr (k * 3+2);obtain⟨ao,c',hv⟩:=(Row.dH h).len;obtain⟨_,rfl,_⟩:U ⟨g,0,O⟩=ao/\n=l.length/\cap=c':=by simpa using hv
 have h:w.ownsRow B 34 3 (D (U ⟨g,0,O⟩) l.length cap) l.length (flat EW l):=h;have t1:=(h.stored (k * 3+2) (D s1 s2 s3)).1;refine⟨w.setCell ⟨g,k * 3+2,O⟩ (D s1 s2 s3),by simp [go_sem,c2,f],?_,dP _ g _ _,fun B' W hB hb=>hb.setCell (p:=⟨g,_,O⟩) hB _⟩;have e:=DU l k x (s1,s2,s3) hk;show World.ownsRow _ B 34 3 _ (bM _) (flat EW _);rw [e,aX];exact t1
theorem eP.set {α β:Type} {R:α->β->Prop}:∀ {l:List α} {m:List β} (k:Nat) (a:α) (b:β),eP R l m->m[k]?=U b->R a b->eP R (l.set k a) m
 | _,_,_,_,_,.nil,h,_=>by simp at h
 | _,_,0,a,b,.cons x t,h,hr=>by
  simp at h;subst h;exact .cons hr t
 | _,_,k+1,a,b,.cons x t,h,hr=>.cons x (eP.set k a b t (by simpa using h) hr)
def PM (w0:aj) (B:Nat) (wr:aj) (v:aA) (p:List C5):Prop:=fI w0 v p\/gT wr B v p
def Ki (w0:aj) (B:Nat) (wr:aj) (x:jD) (a:Ad):Prop:=(x.1,x.2.1)=a.id/\x.2.2.2=a.par/\PM w0 B wr (dU x.2.2.1) a.p
def AJ (w0:aj) (B:Nat) (wr:aj) (x:iq) (a:En):Prop:=(x.1,x.2.1)=a.tree/\(x.2.2.1,x.2.2.2.1)=a.sub/\x.2.2.2.2.2.1=a.from_/\x.2.2.2.2.2.2=a.up/\PM w0 B wr (dU x.2.2.2.2.1) a.p
def Ni (w0:aj) (B:Nat) (wr:aj) (x:qM) (a:Ow):Prop:=(x.1,x.2.1)=a.id/\PM w0 B wr (dU x.2.2) a.p
theorem PM.grow {w0 wr x:aj} {B:Nat} {v:aA} {p:List C5} (h:PM w0 B wr v p) (hb:Below wr.heap.size wr x):PM w0 B x v p:=h.imp id fun h=>Bk.dI h hb
theorem PM.but {w0 wr x:aj} {B:Nat} {v:aA} {p:List C5} {g:Nat} {d:Array aA} {t:aY} (h:PM w0 B wr v p) (hb:But g wr x) (hg:dK wr g d t) (hne:(70 == t)=aC):PM w0 B x v p:=h.imp id fun h=>hb.own h hg hne
theorem PM.row {w0 wr:aj} {B:Nat} {v:aA} {p:List C5} (h:PM w0 B wr v p) (hb:Below w0.heap.size w0 wr):fI wr v p:=h.elim (fun h=>h.on hb) Row.dH
theorem Ki.grow {w0 wr x:aj} {B:Nat} {y:jD} {a:Ad} (h:Ki w0 B wr y a) (hb:Below wr.heap.size wr x):Ki w0 B x y a:=⟨h.1,h.2.1,h.2.2.grow hb⟩
theorem AJ.grow {w0 wr x:aj} {B:Nat} {y:iq} {a:En} (h:AJ w0 B wr y a) (hb:Below wr.heap.size wr x):AJ w0 B x y a:=⟨h.1,h.2.1,h.2.2.1,h.2.2.2.1,h.2.2.2.2.grow hb⟩
theorem Ni.grow {w0 wr x:aj} {B:Nat} {y:qM} {a:Ow} (h:Ni w0 B wr y a) (hb:Below wr.heap.size wr x):Ni w0 B x y a:=⟨h.1,h.2.grow hb⟩
theorem Ki.but {w0 wr x:aj} {B:Nat} {y:jD} {a:Ad} {g:Nat} {d:Array aA} {t:aY} (h:Ki w0 B wr y a) (hb:But g wr x) (hg:dK wr g d t) (hne:(70 == t)=aC):Ki w0 B x y a:=⟨h.1,h.2.1,h.2.2.but hb hg hne⟩
theorem AJ.but {w0 wr x:aj} {B:Nat} {y:iq} {a:En} {g:Nat} {d:Array aA} {t:aY} (h:AJ w0 B wr y a) (hb:But g wr x) (hg:dK wr g d t) (hne:(70 == t)=aC):AJ w0 B x y a:=⟨h.1,h.2.1,h.2.2.1,h.2.2.2.1,h.2.2.2.2.but hb hg hne⟩
theorem Ni.but {w0 wr x:aj} {B:Nat} {y:qM} {a:Ow} {g:Nat} {d:Array aA} {t:aY} (h:Ni w0 B wr y a) (hb:But g wr x) (hg:dK wr g d t) (hne:(70 == t)=aC):Ni w0 B x y a:=⟨h.1,h.2.but hb hg hne⟩
def vw (w:aj):aj:={ w with heap:=#[] }
theorem Yn (w:aj) (a:Addr):(vw w).cell? a=O:=by
 unfold World.cell? vw;simp
theorem KQ {α:Type} {E:Ek α} {w x:aj} {v:aA} {l:List α} (h:Row E (vw w) v l):Row E x v l:=by
 rcases h with h|⟨a,cap,h1,h2,h3,h4⟩
 ·exact Or.inl h
 ·refine Or.inr ⟨a,cap,h1,h2,h3,fun j u hj=>?_⟩;have h5:=h4 j u hj;rw [Yn] at h5;cases h5
theorem vH {α:Type}:∀ (l:List α) (k:Nat) (x:α),k<l.length->(l.set k x).take (k+1)=l.take k++[x]
 | [],k,x,h=>absurd h (Nat.not_lt_zero k)
 | _::_,0,_,_=>rfl
 | a::l,k+1,x,h=>by
  rw [aI,List.take_succ_cons,vH l k x (by simpa using h)]
  rfl
theorem yg {α β:Type} {R:α->β->Prop} {l:List α} {m:List β} {k:Nat} {x:α} {y:β} (h:eP R (l.take k) (m.take k)) (hk:k<l.length) (hy:m[k]?=U y) (hx:R x y):eP R ((l.set k x).take (k+1)) (m.take (k+1)):=by
 rw [vH l k x hk,aT,hy];exact h.append (.cons hx .nil)
structure Cp (w0:aj) (B:Nat) (wr:aj) (b:Br) (nv av sv ev ov:Sl):Prop where
 near:zI wr B (dU nv) b.near
 seen:sG wr B (dU sv) b.seen
 dQ:∃ l,lZ wr B (dU av) l/\eP (Ki w0 B wr) l b.dQ
 ent:∃ l,jV wr B (dU ev) l/\eP (AJ w0 B wr) l b.ent
 own:∃ l,qN wr B (dU ov) l/\eP (Ni w0 B wr) l b.own
theorem Cp.grow {w0 wr x:aj} {B:Nat} {b:Br} {nv av sv ev ov:Sl} (h:Cp w0 B wr b nv av sv ev ov) (hb:Below wr.heap.size wr x):Cp w0 B x b nv av sv ev ov where
 near:=Bk.dI h.near hb
 seen:=Bk.dI h.seen hb
 dQ:=by obtain⟨l,h1,h2⟩:=h.dQ; exact⟨l,Bk.dI h1 hb,h2.mono fun _ _ h=>h.grow hb⟩
 ent:=by obtain⟨l,h1,h2⟩:=h.ent; exact⟨l,Bk.dI h1 hb,h2.mono fun _ _ h=>h.grow hb⟩
 own:=by obtain⟨l,h1,h2⟩:=h.own; exact⟨l,Bk.dI h1 hb,h2.mono fun _ _ h=>h.grow hb⟩
theorem Cp.yh {w0 wr x:aj} {B:Nat} {b:Br} {nv av sv ev ov:Sl} (h:Cp w0 B wr b nv av sv ev ov) {g:Nat} {d:Array aA} {t:aY} (hb:But g wr x) (hg:dK wr g d t) (h1:(3 == t)=aC) (h2:(31 == t)=aC) (h3:(74 == t)=aC) (h4:(66 == t)=aC) (h5:(34 == t)=aC) (h6:(70 == t)=aC):Cp w0 B x b nv av sv ev ov where
 near:=hb.own h.near hg h1
 seen:=hb.own h.seen hg h2
 dQ:=by obtain⟨l,g1,g2⟩:=h.dQ; exact⟨l,hb.own g1 hg h3,g2.mono fun _ _ h=>h.but hb hg h6⟩
 ent:=by obtain⟨l,g1,g2⟩:=h.ent; exact⟨l,hb.own g1 hg h4,g2.mono fun _ _ h=>h.but hb hg h6⟩
 own:=by obtain⟨l,g1,g2⟩:=h.own; exact⟨l,hb.own g1 hg h5,g2.mono fun _ _ h=>h.but hb hg h6⟩
theorem Cp.but {w0 wr x:aj} {B:Nat} {b:Br} {nv av sv ev ov:Sl} (h:Cp w0 B wr b nv av sv ev ov) {g:Nat} {d:Array aA} (hb:But g wr x) (hg:dK wr g d 28):Cp w0 B x b nv av sv ev ov where
 near:=hb.own h.near hg (by decide)
 seen:=hb.own h.seen hg (by decide)
 dQ:=by obtain⟨l,h1,h2⟩:=h.dQ; exact⟨l,hb.own h1 hg (by decide),h2.mono fun _ _ h=>h.but hb hg (by decide)⟩
 ent:=by obtain⟨l,h1,h2⟩:=h.ent; exact⟨l,hb.own h1 hg (by decide),h2.mono fun _ _ h=>h.but hb hg (by decide)⟩
 own:=by obtain⟨l,h1,h2⟩:=h.own; exact⟨l,hb.own h1 hg (by decide),h2.mono fun _ _ h=>h.but hb hg (by decide)⟩
structure Cs (w0 w wr:aj) (b:Br) (kd kn kw:Nat) (nv av sv ev ov:Sl):Prop where
 vB:Below w.heap.size w wr
 bx:dK wr w.heap.size #[V Z b.me,dU nv,dU av,dU sv,dU ev,dU ov] 28
 bz:dK wr (w.heap.size+1) #[V Z 0,D O 0 0,D O 0 0,D O 0 0,D O 0 0,D O 0 0] 28
 near:zI wr w.heap.size (dU nv) b.near
 seen:sG wr w.heap.size (dU sv) b.seen
 dQ:∃ l,lZ wr w.heap.size (dU av) l/\eP (Ki w0 w.heap.size wr) l b.dQ/\eP (Ki (vw w0) w.heap.size wr) (l.take kd) (b.dQ.take kd)
 ent:∃ l,jV wr w.heap.size (dU ev) l/\eP (AJ w0 w.heap.size wr) l b.ent/\eP (AJ (vw w0) w.heap.size wr) (l.take kn) (b.ent.take kn)
 own:∃ l,qN wr w.heap.size (dU ov) l/\eP (Ni w0 w.heap.size wr) l b.own/\eP (Ni (vw w0) w.heap.size wr) (l.take kw) (b.own.take kw)
theorem Cs.SI {w0 w wr x:aj} {b:Br} {kd kn kw kd':Nat} {nv sv ev ov:Sl} {g n cap:Nat} {l l':List jD} (h:Cs w0 w wr b kd kn kw nv (U ⟨g,0,O⟩,n,cap) sv ev ov) (ho:lZ wr w.heap.size (D (U ⟨g,0,O⟩) n cap) l) (hx:lZ x w.heap.size (D (U ⟨g,0,O⟩) n cap) l') (hb:But g wr x) (hw:Below w.heap.size w x) (hA:eP (Ki w0 w.heap.size x) l' b.dQ) (hV:eP (Ki (vw w0) w.heap.size x) (l'.take kd') (b.dQ.take kd')):Cs w0 w x b kd' kn kw nv (U ⟨g,0,O⟩,n,cap) sv ev ov:=by
 obtain⟨cur,hg⟩:=jJ ho;exact {
  vB:=hw
  bx:=hb.box h.bx (qy h.bx hg (by decide))
  bz:=hb.box h.bz (qy h.bz hg (by decide))
  near:=hb.own h.near hg (by decide)
  seen:=hb.own h.seen hg (by decide)
  dQ:=⟨l',hx,hA,hV⟩
  ent:=by obtain⟨l,h1,h2,h3⟩:=h.ent; exact⟨l,hb.own h1 hg (by decide),h2.mono fun _ _ h=>h.but hb hg (by decide),h3.mono fun _ _ h=>h.but hb hg (by decide)⟩
  own:=by obtain⟨l,h1,h2,h3⟩:=h.own; exact⟨l,hb.own h1 hg (by decide),h2.mono fun _ _ h=>h.but hb hg (by decide),h3.mono fun _ _ h=>h.but hb hg (by decide)⟩ }
theorem Cs.agA {w0 w wr x:aj} {b:Br} {kd kn kw kn':Nat} {nv av sv ov:Sl} {g n cap:Nat} {l l':List iq} (h:Cs w0 w wr b kd kn kw nv av sv (U ⟨g,0,O⟩,n,cap) ov) (ho:jV wr w.heap.size (D (U ⟨g,0,O⟩) n cap) l) (hx:jV x w.heap.size (D (U ⟨g,0,O⟩) n cap) l') (hb:But g wr x) (hw:Below w.heap.size w x) (hA:eP (AJ w0 w.heap.size x) l' b.ent) (hV:eP (AJ (vw w0) w.heap.size x) (l'.take kn') (b.ent.take kn')):Cs w0 w x b kd kn' kw nv av sv (U ⟨g,0,O⟩,n,cap) ov:=by
 obtain⟨cur,hg⟩:=jJ ho;exact {
  vB:=hw
  bx:=hb.box h.bx (qy h.bx hg (by decide))
  bz:=hb.box h.bz (qy h.bz hg (by decide))
  near:=hb.own h.near hg (by decide)
  seen:=hb.own h.seen hg (by decide)
  dQ:=by obtain⟨l,h1,h2,h3⟩:=h.dQ; exact⟨l,hb.own h1 hg (by decide),h2.mono fun _ _ h=>h.but hb hg (by decide),h3.mono fun _ _ h=>h.but hb hg (by decide)⟩
  ent:=⟨l',hx,hA,hV⟩
  own:=by obtain⟨l,h1,h2,h3⟩:=h.own; exact⟨l,hb.own h1 hg (by decide),h2.mono fun _ _ h=>h.but hb hg (by decide),h3.mono fun _ _ h=>h.but hb hg (by decide)⟩ }
theorem Cs.setW {w0 w wr x:aj} {b:Br} {kd kn kw kw':Nat} {nv av sv ev:Sl} {g n cap:Nat} {l l':List qM} (h:Cs w0 w wr b kd kn kw nv av sv ev (U ⟨g,0,O⟩,n,cap)) (ho:qN wr w.heap.size (D (U ⟨g,0,O⟩) n cap) l) (hx:qN x w.heap.size (D (U ⟨g,0,O⟩) n cap) l') (hb:But g wr x) (hw:Below w.heap.size w x) (hA:eP (Ni w0 w.heap.size x) l' b.own) (hV:eP (Ni (vw w0) w.heap.size x) (l'.take kw') (b.own.take kw')):Cs w0 w x b kd kn kw' nv av sv ev (U ⟨g,0,O⟩,n,cap):=by
 obtain⟨cur,hg⟩:=jJ ho;exact {
  vB:=hw
  bx:=hb.box h.bx (qy h.bx hg (by decide))
  bz:=hb.box h.bz (qy h.bz hg (by decide))
  near:=hb.own h.near hg (by decide)
  seen:=hb.own h.seen hg (by decide)
  dQ:=by obtain⟨l,h1,h2,h3⟩:=h.dQ; exact⟨l,hb.own h1 hg (by decide),h2.mono fun _ _ h=>h.but hb hg (by decide),h3.mono fun _ _ h=>h.but hb hg (by decide)⟩
  ent:=by obtain⟨l,h1,h2,h3⟩:=h.ent; exact⟨l,hb.own h1 hg (by decide),h2.mono fun _ _ h=>h.but hb hg (by decide),h3.mono fun _ _ h=>h.but hb hg (by decide)⟩
  own:=⟨l',hx,hA,hV⟩ }
end Av
namespace Pr
open Go.RowKit Go.Sort Pu Rw Va
theorem Qb (s:ByteArray) (w:aj) (hs:s.size<=maxLen) :
  bG ah 155 #[ak s] w fun e w'=>e=aJ (bP (nV s))/\w=w':=by
 unfold maxLen at hs;go_enter Tryz.func155,Tryz.ntmps155;go_wp2
 go_loop [6] (fun i=>∃ k:Nat,k<=s.size/\i=V Z k/\∀ (j:Nat) (hj:j<s.size),j<k->zJ s[j]=bK) (fun i=>s.size-(intOf i).toNat)
 case atStart=>exact⟨0,aZ _,rfl,fun j hj h=>by omega⟩
 case round =>
  obtain⟨k,hk,rfl,hall⟩:=hrel;have AL:=J hall;clear hall;by_cases hlt:k<s.size
  ·have hcl:(s[k].toNat:Int)<256:=by have:=s[k].toNat_lt; omega
   by_cases h1:97<=s[k].toNat
   ·by_cases h2:s[k].toNat<=122
    ·have L:=J (show zJ s[k]=bK by simp [zJ,h1,h2]);have d1:decide ((s[k].toNat:Int)<97)=aC:=by simp; omega
     have d2:decide ((122:Int)<(s[k].toNat:Int))=aC:=by simp; omega
     clear h1 h2;go_wp2
     go_round
     case rel=>exact⟨k+1,by omega,by go_num,fun j hj h=>by
      rcases aP j k with h3|h3
      ·exact AL.out j hj h3
      ·obtain rfl:j=k:=by omega
       exact L.out⟩
     case measure=>simp [intOf]; omega
    ·have R:=J (show nV s=aC from Du s k hlt (by simp [zJ,h2]));have d1:decide ((s[k].toNat:Int)<97)=aC:=by simp; omega
     have d2:decide ((122:Int)<(s[k].toNat:Int))=bK:=by simp; omega
     clear h1 h2;go_wp2;go_ret;exact⟨eG R.out.symm,rfl⟩
   ·have R:=J (show nV s=aC from Du s k hlt (by simp [zJ,h1]));have d1:decide ((s[k].toNat:Int)<97)=bK:=by simp; omega
    clear h1;go_wp2;go_ret;exact⟨eG R.out.symm,rfl⟩
  ·obtain rfl:k=s.size:=by omega
   have R:=J (Po s (fun j hj=>AL.out j hj hj));by_cases h1:1<=s.size
   ·have R2:=J (show nV s=decide ((s.size:Int)<=12) by rw [R.out]; simp [h1]; omega);go_wp2;go_ret;exact⟨eG R2.out.symm,rfl⟩
   ·have R2:=J (show nV s=aC by rw [R.out]; simp [h1]);have d1:decide ((1:Int)<=(s.size:Int))=aC:=by simp; omega
    go_wp2;go_ret;exact⟨eG R2.out.symm,rfl⟩
theorem oB (w:aj) (nm:ByteArray) (k lo hi:Int) (u:ByteArray):Below w.heap.size w (w.alloc (au #[ak nm,V Z k,V Z lo,V Z hi,ak u] 70)) :=
 (aD w.heap.size w).alloc (aS _) _
theorem Yo (c:Cn) (w:aj) (hs:c.1.size<=maxLen):bG ah 116 #[cv (r5 c)] w fun e w'=>e=aJ (bP (vD c))/\Below w.heap.size w w':=by
 obtain⟨nm,k⟩:=c;have NA:=J (Qb nm (w.alloc (au #[ak nm,V Z (kN k),V Z (jF k),V Z (jG k),ak (kT k)] 70)) hs);have B:=J (oB w nm (kN k) (jF k) (jG k) (kT k));have R:=J (show vD (nm,k)=(nV nm && iN k) from rfl);clear hs;generalize vD (nm,k)=r at *;obtain⟨q,hq⟩:∃ q,nV nm=q:=⟨_,rfl⟩;rw [hq] at NA R;clear hq;cases k with
 | rg lo hi =>
  simp only [r5,kN,jF,jG,kT] at *;cases q
  ·go_enter aH,aF;go_wp2_with fail;refine NA.out.mono ?_;rintro e w' ⟨rfl,rfl⟩;go_wp2;go_ret;exact⟨eG (by rw [R.out]; simp),B.out⟩
  ·by_cases h1:lo<=hi <;> have H1:=J h1
   all_goals
    go_enter aH,aF;go_wp2_with fail;refine NA.out.mono ?_;rintro e w' ⟨rfl,rfl⟩;go_wp2;go_ret;exact⟨eG (by rw [R.out]; have h:=H1.out; simp [iN,h] <;> omega),B.out⟩
 | tx u =>
  simp only [r5,kN,jF,jG,kT] at *;cases q
  ·go_enter aH,aF;go_wp2_with fail;refine NA.out.mono ?_;rintro e w' ⟨rfl,rfl⟩;go_wp2;go_ret;exact⟨eG (by rw [R.out]; simp),B.out⟩
  ·go_enter aH,aF;go_wp2_with fail;refine NA.out.mono ?_;rintro e w' ⟨rfl,rfl⟩;go_wp2;go_ret;exact⟨eG (by rw [R.out]; simp [iN]; omega),B.out⟩
 | pr u =>
  simp only [r5,kN,jF,jG,kT] at *;cases q
  ·go_enter aH,aF;go_wp2_with fail;refine NA.out.mono ?_;rintro e w' ⟨rfl,rfl⟩;go_wp2;go_ret;exact⟨eG (by rw [R.out]; simp),B.out⟩
  ·by_cases h1:u.size<12
   ·have e1:decide ((12:Int)<=(u.size:Int))=aC:=by simp; omega
    have e2:decide ((u.size:Int)<=12)=bK:=by simp; omega
    have H1:=J h1;clear h1;go_enter aH,aF;go_wp2_with fail;refine NA.out.mono ?_;rintro e w' ⟨rfl,rfl⟩;go_wp2;go_ret;exact⟨eG (by rw [R.out]; have h:=H1.out; simp [iN,h]),B.out⟩
   ·have e1:decide ((12:Int)<=(u.size:Int))=bK:=by simp; omega
    have H1:=J h1;clear h1;go_enter aH,aF;go_wp2_with fail;refine NA.out.mono ?_;rintro e w' ⟨rfl,rfl⟩;go_wp2;go_ret;exact⟨eG (by rw [R.out]; have h:=H1.out; simp [iN]; omega),B.out⟩
end Pr
namespace Rl
open Go.RowKit Pu Rw Pr Va
def yj (x y:Cn):Bool:=decide (y.1=x.1) && eU y.2 x.2
theorem SK {α:Type} (f:α->Bool) (l:List α) (k:Nat) (y:α) (h:l[k]?=U y):(l.take (k+1)).any f=((l.take k).any f || f y):=by
 rw [aT,h,List.any_append];simp
theorem Ih {α:Type} (f:α->Bool) (l:List α) (k:Nat) (y:α) (h:l[k]?=U y):(l.take (k+1)).all f=((l.take k).all f && f y):=by
 rw [aT,h,List.all_append];simp
theorem Nj {α:Type} (f:α->Bool) (l:List α) (k:Nat) (y:α) (h:l[k]?=U y) (hf:f y=aC):l.all f=aC:=by
 rw [List.all_eq_false];exact⟨y,List.mem_of_getElem? h,by simp [hf]⟩
theorem str_eq (a b:ByteArray) (h:a=b):(a.toList == b.toList)=bK:=by simp [h]
theorem acK (a b:ByteArray) (h:¬ a=b):(a.toList == b.toList)=aC:=by
 rw [beq_eq_false_iff_ne];intro e;rw [bH,bH] at e;exact h (qL e)
theorem Ii (nW bv:aA) (a b:List Cn) (w:aj) (ha:fI w nW (a.map r5)) (hb:fI w bv (b.map r5)) (hl:a.length<=100) (hm:b.length<=100) :
  bG ah 153 #[nW,bv] w fun e w'=>e=aJ (bP (pW a b))/\Below w.heap.size w w':=by
 have HA:=J ha;have HB:=J hb;have CO:=J (show pW a b=a.all fun x=>b.any (yj x) from rfl);obtain⟨ao,ac,rfl⟩:=ha.len;obtain⟨bo,bc,rfl⟩:=hb.len;clear ha hb;rw [aN] at HA HB ⊢;rw [aN];generalize pW a b=r at *;generalize hn:a.length=n at *;generalize hm':b.length=m at *;have HN:=J hn;have HM:=J hm';clear hn hm';go_enter Tryz.func153,Tryz.ntmps153;go_wp2
 go_loopw [12] (fun i wr=>∃ k:Nat,k<=n/\i=V Z k/\Below w.heap.size w wr/\(a.take k).all (fun x=>b.any (yj x))=bK) (fun i _=>n-(intOf i).toNat)
 case atStart=>exact⟨0,aZ _,rfl,aD _ _,rfl⟩
 case round =>
  obtain⟨k,hk,rfl,hbe,hall⟩:=hrel;have BE:=J hbe;have AL:=J hall;clear hbe hall;by_cases hlt:k<n
  ·obtain⟨x,hx⟩:∃ x,a[k]?=U x:=⟨_,aB (by rw [HN.out]; exact hlt)⟩;obtain⟨p,ix,px⟩:=XT HA.out rfl (by rw [aN]; exact HN.out) (show (a.map r5)[k]?=U (r5 x) by rw [aG,hx]; rfl);have p0:=(px _ BE.out).1;have p1:=(px _ BE.out).2.1;have p2:=(px _ BE.out).2.2.1;have p3:=(px _ BE.out).2.2.2.1;have p4:=(px _ BE.out).2.2.2.2;have HX:=J hx;have B1:=J (BE.out.alloc BE.out.size (au #[ak (r5 x).1,V Z (r5 x).2.1,V Z (r5 x).2.2.1,V Z (r5 x).2.2.2.1,ak (r5 x).2.2.2.2] 70));have Z1:=J (show wr.heap.size<(wr.alloc (au #[ak (r5 x).1,V Z (r5 x).2.1,V Z (r5 x).2.2.1,V Z (r5 x).2.2.2.1,ak (r5 x).2.2.2.2] 70)).heap.size by simp);have e0:(wr.alloc (au #[ak (r5 x).1,V Z (r5 x).2.1,V Z (r5 x).2.2.1,V Z (r5 x).2.2.2.1,ak (r5 x).2.2.2.2] 70)).cell? ⟨wr.heap.size,0,O⟩=U (ak (r5 x).1):=by simp [go_sem]
   have e1:(wr.alloc (au #[ak (r5 x).1,V Z (r5 x).2.1,V Z (r5 x).2.2.1,V Z (r5 x).2.2.2.1,ak (r5 x).2.2.2.2] 70)).cell? ⟨wr.heap.size,1,O⟩=U (V Z (r5 x).2.1):=by simp [go_sem]
   have e2:(wr.alloc (au #[ak (r5 x).1,V Z (r5 x).2.1,V Z (r5 x).2.2.1,V Z (r5 x).2.2.2.1,ak (r5 x).2.2.2.2] 70)).cell? ⟨wr.heap.size,2,O⟩=U (V Z (r5 x).2.2.1):=by simp [go_sem]
   have e3:(wr.alloc (au #[ak (r5 x).1,V Z (r5 x).2.1,V Z (r5 x).2.2.1,V Z (r5 x).2.2.2.1,ak (r5 x).2.2.2.2] 70)).cell? ⟨wr.heap.size,3,O⟩=U (V Z (r5 x).2.2.2.1):=by simp [go_sem]
   have e4:(wr.alloc (au #[ak (r5 x).1,V Z (r5 x).2.1,V Z (r5 x).2.2.1,V Z (r5 x).2.2.2.1,ak (r5 x).2.2.2.2] 70)).cell? ⟨wr.heap.size,4,O⟩=U (ak (r5 x).2.2.2.2):=by simp [go_sem]
   clear px hx;go_wp2;generalize wr.alloc (au #[ak (r5 x).1,V Z (r5 x).2.1,V Z (r5 x).2.2.1,V Z (r5 x).2.2.2.1,ak (r5 x).2.2.2.2] 70)=W1 at *;generalize wr.heap.size=bx at *;have E0:=J e0;have E1:=J e1;have E2:=J e2;have E3:=J e3;have E4:=J e4;clear e0 e1 e2 e3 e4 ix p0 p1 p2 p3 p4
   go_loopw [7,18] (fun v i wi=>∃ j:Nat,j<=m/\i=V Z j/\v=bP ((b.take j).any (yj x))/\Below W1.heap.size W1 wi) (fun _ i _=>m-(intOf i).toNat)
   case atStart=>exact⟨0,aZ _,rfl,rfl,aD _ _⟩
   case round =>
    obtain⟨j,hj,rfl,rfl,hbi⟩:=hrel;have BI:=J hbi;have TK:=J (B1.out.trans (hbi.mono B1.out.size));clear hbi;by_cases hjt:j<m
    ·obtain⟨y,hy⟩:∃ y,b[j]?=U y:=⟨_,aB (by rw [HM.out]; exact hjt)⟩;obtain⟨q,iy,py⟩:=XT HB.out rfl (by rw [aN]; exact HM.out) (show (b.map r5)[j]?=U (r5 y) by rw [aG,hy]; rfl);have q0:=(py _ TK.out).1;have q1:=(py _ TK.out).2.1;have q2:=(py _ TK.out).2.2.1;have q3:=(py _ TK.out).2.2.2.1;have q4:=(py _ TK.out).2.2.2.2;have MO:=J (SK (yj x) b j y hy);have Yp:=J (BI.out.alloc BI.out.size (au #[ak (r5 y).1,V Z (r5 y).2.1,V Z (r5 y).2.2.1,V Z (r5 y).2.2.2.1,ak (r5 y).2.2.2.2] 70));have f0:=(Yp.out.cell (p:=⟨bx,0,O⟩) Z1.out).trans E0.out;have f1:=(Yp.out.cell (p:=⟨bx,1,O⟩) Z1.out).trans E1.out;have f2:=(Yp.out.cell (p:=⟨bx,2,O⟩) Z1.out).trans E2.out;have f3:=(Yp.out.cell (p:=⟨bx,3,O⟩) Z1.out).trans E3.out;have f4:=(Yp.out.cell (p:=⟨bx,4,O⟩) Z1.out).trans E4.out;clear py hy;cases hv:(b.take j).any (yj x)
     ·rw [hv] at MO;clear hv;by_cases hne:y.1=x.1
      ·have g0:=str_eq (r5 y).1 (r5 x).1 hne;have CV:=J (show yj x y=eU y.2 x.2 by simp [yj,hne]);go_wp2_with fail;refine (Hz y x _).mono ?_;rintro e w2 ⟨rfl,hc⟩;have BC:=J (Yp.out.trans (hc.mono Yp.out.size));clear hc;go_wp2
       go_roundw
       case rel=>exact⟨j+1,by omega,by go_num,by rw [MO.out,CV.out]; rfl,BC.out⟩
       case measure=>simp [intOf]; omega
      ·have g0:=acK (r5 y).1 (r5 x).1 hne;have CV:=J (show yj x y=aC by simp [yj,hne]);go_wp2
       go_roundw
       case rel=>exact⟨j+1,by omega,by go_num,by rw [MO.out,CV.out]; rfl,Yp.out⟩
       case measure=>simp [intOf]; omega
     ·rw [hv] at MO;clear hv;go_wp2
      go_roundw
      case rel=>exact⟨j+1,by omega,by go_num,by rw [MO.out]; rfl,Yp.out⟩
      case measure=>simp [intOf]; omega
    ·obtain rfl:j=m:=by omega
     have TA:=J (show (b.take j).any (yj x)=b.any (yj x) by rw [<- HM.out,bD]);have AM:=J (Ih (fun x=>b.any (yj x)) a k x HX.out);rw [TA.out];cases hv:b.any (yj x)
     ·have R:=J (show r=aC from CO.out.trans (Nj _ a k x HX.out hv));clear hv;go_wp2;go_ret;exact⟨eG R.out.symm,TK.out⟩
     ·have HV:=J hv;clear hv;go_wp2
      go_roundw
      case rel=>exact⟨k+1,by omega,by go_num,TK.out,by rw [AM.out,AL.out,HV.out]; rfl⟩
      case measure=>simp [intOf]; omega
  ·obtain rfl:k=n:=by omega
   have R:=J (show r=bK by rw [CO.out,<- AL.out,<- HN.out,bD]);go_wp2;go_ret;exact⟨eG R.out.symm,BE.out⟩
end Rl
namespace Bk
open Go.RowKit Rw YtmklifheakemeaaGreat.Nm Pr
def iA {κ:Type} [DecidableEq κ]:List κ->κ->Int
 | [],_=>-1
 | a::l,x=>if a=x then 0 else if iA l x=-1 then -1 else iA l x+1
theorem vX {κ:Type} [DecidableEq κ] (l:List κ) (x:κ) (h:∀ (j:Nat) (y:κ),l[j]?=U y->y≠x):iA l x=-1:=by
 induction l with
 | nil=>rfl
 | cons a l ih=>rw [iA,if_neg (h 0 a rfl),ih fun j y hj=>h (j+1) y (by simpa using hj),if_pos rfl]
theorem Ij {κ:Type} [DecidableEq κ] (l:List κ) (k:Nat) (x:κ) (h:l[k]?=U x) (hall:∀ (j:Nat) (z:κ),j<k->l[j]?=U z->z≠x):iA l x=k:=by
 induction l generalizing k with
 | nil=>simp at h
 | cons a l ih =>
  cases k with
  | zero =>
   obtain rfl:a=x:=by simpa using h
   rw [iA,if_pos rfl]
   rfl
  | succ k =>
   have h2:=ih k (by simpa using h) fun j z hj hz=>hall (j+1) z (by omega) (by simpa using hz);rw [iA,if_neg (hall 0 a (by omega) rfl),h2,if_neg (by omega)];omega
theorem lQ {κ:Type} [DecidableEq κ] (l:List κ) (x:κ):iA l x=-1\/∃ k:Nat,iA l x=k/\l[k]?=U x:=by
 induction l with
 | nil=>exact Or.inl rfl
 | cons a l ih =>
  rw [iA];by_cases h:a=x
  ·rw [if_pos h];exact Or.inr ⟨0,rfl,by rw [h]; rfl⟩
  ·rw [if_neg h];rcases ih with h2|⟨k,h2,h3⟩
   ·rw [if_pos h2];exact Or.inl rfl
   ·rw [if_neg (by omega),h2];exact Or.inr ⟨k+1,by omega,by simpa using h3⟩
abbrev iR (e:iq):Id×Id:=((e.1,e.2.1),(e.2.2.1,e.2.2.2.1))
theorem AO (me:Int) (nv av sv ov:aA) (ev:Sl) (l:List iq) (x z:Id) (w:aj) (hs:lI w (dU ev) l) :
  bG ah 108 #[.agg #[V Z me,nv,av,sv,dU ev,ov],mM x,mM z] w fun e w'=>e=aJ (V Z (iA (l.map iR) (x,z)))/\Below w.heap.size w w':=by
 obtain⟨c,d⟩:=x;obtain⟨g,h⟩:=z;obtain⟨so,sn,sc⟩:=ev;obtain⟨ao,ac,hv⟩:=hs.len;have hv:D so sn sc=D ao l.length ac:=hv;obtain⟨rfl,rfl,rfl⟩:so=ao/\sn=l.length/\sc=ac:=by simpa using hv
 obtain⟨h0,h1,h2,h3⟩:=gK w #[V Z me,nv,av,sv,D so l.length sc,ov] #[V Z c,V Z d] #[V Z g,V Z h] 28 31 31;have B:=J h0;have HS:=J (hs.on h0);have X2:=J h1;have X3:=J h2;have X4:=J h3;have lm:=hs.most;unfold maxLen at lm;obtain⟨n,hn⟩:∃ n,n=l.length:=⟨_,rfl⟩;have q3:=h1.cell 4;simp only [aM,aK,aL] at q3;rw [<- hn] at HS X2 lm q3 B X3 X4 ⊢;have HN:=J hn.symm;clear h0 h1 h2 h3 hs hv hn;go_enter Tryz.func108,Tryz.ntmps108;go_upto_region 1 with fail;generalize ((w.alloc (au #[V Z me,nv,av,sv,D so n sc,ov] 28)).alloc (au #[V Z c,V Z d] 31)).alloc (au #[V Z g,V Z h] 31)=W at *;go_wp2
 go_loopw [12] (fun i wr=>∃ k:Nat,k<=n/\i=V Z k/\Below W.heap.size W wr/\∀ (j:Nat) (y:iq),j<k->l[j]?=U y->iR y≠((c,d),(g,h))) (fun i _=>n-(intOf i).toNat)
 case atStart=>exact⟨0,aZ _,rfl,aD _ _,fun j y h=>by omega⟩
 case round =>
  obtain⟨k,hk,rfl,hbe,hall⟩:=hrel;have BE:=J hbe;have AL:=J hall;clear hbe hall;by_cases hlt:k<n
  ·obtain⟨y,hy⟩:∃ y,l[k]?=U y:=⟨_,aB (by rw [HN.out]; exact hlt)⟩;obtain⟨p,ix,px⟩:=Kh HS.out rfl HN.out hy;obtain⟨p0,p1,p2,p3,p4,p5,p6⟩:=px wr BE.out;obtain⟨y1,y2,y3,y4,⟨yo,yn,yc⟩,y6,y7⟩:=y;simp only at p0 p1 p2 p3 p4 p5 p6;have NB:=J (fM wr (au #[V Z y1,V Z y2,V Z y3,V Z y4,D yo yn yc,V Z y6,bP y7] 66));obtain⟨x0,x1⟩:=((X3.out.on BE.out).on NB.out).cs2;obtain⟨z0,z1⟩:=((X4.out.on BE.out).on NB.out).cs2;have hw3:IntKind.i64.wrap ((k:Int)+1)=(k:Int)+1:=IntWalk.i64_in _ (by omega);obtain⟨r,hr⟩:∃ r,(y1 == c && y2 == d)=r:=⟨_,rfl⟩;obtain⟨t,ht⟩:∃ r,(y3 == g && y4 == h)=r:=⟨_,rfl⟩;have he:=qO y1 y2 c d r hr;have hf:=qO y3 y4 g h t ht;have HY:=J hy;have HR:=J hr;have HT:=J ht;clear px hy hr ht;cases r
   ·go_wp2
    go_roundw
    case rel=>exact⟨k+1,by omega,by go_num,BE.out.trans (NB.out.mono BE.out.size),fun j y' hj h1=>by
     rcases aP j k with h3|h3
     ·exact AL.out j y' h3 h1
     ·obtain rfl:j=k:=by omega
      have e1:=HY.out;rw [h1] at e1;rw [aO e1];intro e;obtain⟨⟨rfl,rfl⟩,_⟩:(y1=c/\y2=d)/\(y3=g/\y4=h):=by simpa [iR] using e
      have:=HR.out;simp at this⟩
    case measure=>simp [intOf]; omega
   ·cases t
    ·go_wp2
     go_roundw
     case rel=>exact⟨k+1,by omega,by go_num,BE.out.trans (NB.out.mono BE.out.size),fun j y' hj h1=>by
      rcases aP j k with h3|h3
      ·exact AL.out j y' h3 h1
      ·obtain rfl:j=k:=by omega
       have e1:=HY.out;rw [h1] at e1;rw [aO e1];intro e;obtain⟨_,rfl,rfl⟩:(y1=c/\y2=d)/\(y3=g/\y4=h):=by simpa [iR] using e
       have:=HT.out;simp at this⟩
     case measure=>simp [intOf]; omega
    ·go_wp2;go_ret;have h8:=HR.out;have h9:=HT.out;obtain⟨rfl,rfl⟩:y1=c/\y2=d:=by simpa using h8
     obtain⟨rfl,rfl⟩:y3=g/\y4=h:=by simpa using h9
     exact⟨by rw [Ij (l.map iR) k ((y1,y2),(y3,y4)) (by rw [aG,HY.out]; rfl) (fun j z hj hz=>by
      rw [aG] at hz;cases hl:l[j]? with
      | none=>rw [hl] at hz; cases hz
      | some q =>
       rw [hl] at hz;have hz:iR q=z:=aO hz;rw [<- hz];exact AL.out j q hj hl)]; rfl,B.out.trans ((BE.out.trans (NB.out.mono BE.out.size)).mono B.out.size)⟩
  ·obtain rfl:k=n:=by omega
   go_wp2;go_ret;have hd:iA (l.map iR) ((c,d),(g,h))=-1:=vX _ _ fun j z hz=>by
    rw [aG] at hz;cases hl:l[j]? with
    | none=>rw [hl] at hz; cases hz
    | some q =>
     rw [hl] at hz;have hz:iR q=z:=aO hz;rw [<- hz];exact AL.out j q (by rw [<- HN.out]; exact (aR.1 hl).1) hl
   exact⟨by rw [hd]; rfl,B.out.trans (BE.out.mono B.out.size)⟩
end Bk
namespace Rl
open Go.RowKit Pu Rw Pr Va
end Rl
namespace Av
open Go.RowKit Rw YtmklifheakemeaaGreat.Nm Pr Bk
theorem SS {W:aj} {b:Nat} {c:iq} (h:dK W b (iH c).toArray 66):lI W (D (U ⟨b,0,O⟩) 1 1) [c] :=
 Or.inr ⟨⟨b,0,O⟩,1,rfl,by simp,by decide,uD h (by simp [EN])⟩
def AQ (B:Nat) (l:List iq) (k:Nat) (c:iq) (vv:aA) (W:aj) (e:Ending) (w':aj):Prop:=∃ v',e=aJ v'/\jV w' B v' (l.take k++c::l.drop k)/\Below B W w'/\(∀ j,j<W.heap.size->U j≠vv.ownBlock->w'.heap[j]?=W.heap[j]?)
theorem Ik (B:Nat) (v:aA) (l:List iq) (c:iq) (b:Nat) (W:aj) (ho:jV W B v l) (hx:dK W b (iH c).toArray 66) (hl:l.length<=900) (hB:B<=W.heap.size) :
  bG ah 147 #[v,V Z (l.length:Nat),D (U ⟨b,0,O⟩) 1 1] W (AQ B l l.length c v W):=by
 obtain⟨v',w',hr,ho2,hg⟩:=gJ nO B ho (SS hx) (by omega) (by simp) hB 25;have hr:(bI #[25,25] 25 #[v,D (U ⟨b,0,O⟩) 1 1]).run ah W=.ok v' w':=hr;have Q:=J (show AQ B l l.length c v W (aJ v') w' from ⟨v',rfl,by rw [List.take_of_length_le (aS _),List.drop_of_length_le (aS _)]; exact ho2,(aD B W).grown hg hB (fun j hj=>(ho.lt j hj).1),fun j hj hne=>hg.block j hj hne⟩);obtain⟨sx,hs,_⟩:=qp nO (Row.dH ho) l.length (aS _);have hs:∀ w,(ay 25 v (U (V Z l.length)) O O).run ah w=.ok sx w:=hs;obtain⟨ao,ac,rfl⟩:=(Row.dH ho).len;clear ho ho2 hg;generalize hn:l.length=n at *;clear hn;go_enter bn,bg;go_wp2_with (first | (at_builtin; refine wpList_append_run rfl _ _ 25 rfl rfl rfl hr ?_) | fail);go_ret;exact Q.out
theorem SY (w:aj) (g b k la lb cb:Nat) (cur cs:Array aA) (hb:dK w b cs 66) (hg:dK w g cur 66) (hne:b≠g) (h0:0<cur.size):(callFunc 170 #[D (U ⟨b,0,O⟩) la 1,D (U ⟨g,k,O⟩) lb cb]).run ah w=.ok (.value (bP aC)) w:=by
 rw [run_callFunc_extern Tryz.func170 (by kernel_rfl) (by kernel_rfl) (by kernel_rfl) (e:=Extern.SlicesOverlaps.overlaps #[25,25] #[4]) (by kernel_rfl),
  Lib.run_overlaps_apart w 25 4 66 Tryz.underlying25 7 Tryz.sizeOf66 ⟨b,0,O⟩ ⟨g,k,O⟩ la 1 lb cb hne 66 66 cs.size cur.size hb.shape hg.shape (by omega) (hb.fr 0) (hb.fr _)]
 rfl
theorem Dj (B g n cap:Nat) (cur:Array aA) (l:List iq) (k:Nat) (c:iq) (b:Nat) (W:aj) (hn:n=l.length) (hBg:B<=g) (hg:dK W g cur 66) (hcm:cap<=maxLen) (hsz:cur.size=cap * 7) (ht:cur.toList.take (n * 7)=flat EN l) (hx:dK W b (iH c).toArray 66) (hne:b≠g) (hk:k<n) (hroom:n+1<=cap) (hl:n<=900) :
  bG ah 147 #[D (U ⟨g,0,O⟩) n cap,V Z k,D (U ⟨b,0,O⟩) 1 1] W (AQ B l k c (D (U ⟨g,0,O⟩) n cap) W):=by
 obtain⟨R1,R2,r1,r2,ow⟩:=uE (E:=EN) (l:=l) (k:=k) (cap:=cap) (cur:=cur) (cs:=(iH c).toArray) (c:=c) nO (by omega) (by omega) hsz (by rw [<- hn]; exact ht) g b hne;have hov:=fun lb cb=>SY W g b ((k+1) * 7) 1 lb cb cur (iH c).toArray hx hg hne (by omega);have s0:=gX (E:=EN) nO g k n cap (by omega) (by omega);have s1:=kE (E:=EN) nO ⟨g,0,O⟩ (n+1) n cap (by omega);have s2:=gX (E:=EN) nO g (k+1) (n+1) cap (by omega) (by omega);have s3:=gX (E:=EN) nO g k (n+1) cap (by omega) (by omega);have q1:=r1 W.drew 3 (n+1-(k+1)) (cap-(k+1)) (n+1-k) (cap-k) hg (by omega);have q2:=r2 (W.drew.setRow g R1) 3 (n+1-k) (cap-k) (dK.set (show dK W.drew g cur 66 from hg) R1) (dK.other (show dK W.drew b _ 66 from hx) hne R1) rfl (by omega);have Q:=J (show AQ B l k c (D (U ⟨g,0,O⟩) n cap) W (aJ (D (U ⟨g,0,O⟩) (n+1) cap)) ((W.drew.setRow g R1).setRow g R2) from ⟨_,rfl,by rw [hn]; exact ow _ B hBg hcm (dK.set (dK.set (show dK W.drew g cur 66 from hg) R1) R2),below_setRow (below_setRow (aD B W).drew hBg _) hBg _,fun j hj hne=>(setRow_other _ g j _ (fun e=>hne (by rw [e]; rfl))).trans (setRow_other _ g j _ (fun e=>hne (by rw [e]; rfl)))⟩);clear r1 r2 ow hg ht hx hsz hBg hcm;change ∀ w,(ay 25 (D (U ⟨g,0,O⟩) n cap) (U (V Z k)) O O).run ah w=.ok (D (U ⟨g,k * 7,O⟩) (n-k) (cap-k)) w at s0;change ∀ w,(ay 25 (D (U ⟨g,0,O⟩) n cap) O (U (V Z ((n:Int)+1))) O).run ah w=.ok (D (U ⟨g,0,O⟩) (n+1) cap) w at s1;change ∀ w,(ay 25 (D (U ⟨g,0,O⟩) (n+1) cap) (U (V Z ((k:Int)+1))) O O).run ah w=.ok (D (U ⟨g,(k+1) * 7,O⟩) (n+1-(k+1)) (cap-(k+1))) w at s2;change ∀ w,(ay 25 (D (U ⟨g,0,O⟩) (n+1) cap) (U (V Z k)) O O).run ah w=.ok (D (U ⟨g,k * 7,O⟩) (n+1-k) (cap-k)) w at s3;have e1:((k:Int) == (n:Int))=aC:=by rw [beq_eq_false_iff_ne]; omega
 have e2:decide ((cap:Int)<(n:Int)+1)=aC:=by simp; omega
 change (aU #[25,25] 3 #[D (U ⟨g,(k+1) * 7,O⟩) (n+1-(k+1)) (cap-(k+1)),D (U ⟨g,k * 7,O⟩) (n+1-k) (cap-k)]).run ah W.drew=.ok (V Z ((l.length-k:Nat):Int)) (W.drew.setRow g R1) at q1;change (aU #[25,25] 3 #[D (U ⟨g,k * 7,O⟩) (n+1-k) (cap-k),D (U ⟨b,0,O⟩) 1 1]).run ah (W.drew.setRow g R1)=.ok (V Z 1) ((W.drew.setRow g R1).setRow g R2) at q2;clear hn;go_enter bn,bg;go_wp2_with (first | (simp only [hov]) | fail);clear hov s0 s1 s2 s3;have hw1:IntKind.i64.wrap ((k:Int)+1)=(k:Int)+1:=by rw [bF]; omega
 have hb1:(0:Int)<=(k:Int)+1:=by omega
 have hb0:(k:Int)+1<=(n:Int)+1:=by omega
 have htn:((k:Int)+1).toNat=k+1:=by omega
 have hb2:¬ (cap=k+1):=by omega
 have hb3:(k:Int)<=(n:Int)+1:=by omega
 have hb4:¬ (cap=k):=by omega
 have h81:n+1-(k+1)=n-k:=by omega
 rw [h81] at q1;clear h81
 go_region_law (refine iW rfl (.tmp 73) (.tmp 76) 25 rfl (v:=D (U ⟨g,(k+1) * 7,O⟩) (n-k) (cap-(k+1))) (xv:=D (U ⟨g,k * 7,O⟩) (n+1-k) (cap-k)) (by simp [Act.eval,Act.put]) (by simp [Act.eval,Act.put]) q1 ?_)
 all_goals simp only [Exit.then]
 all_goals apply_assumption
 clear q1 hw1 hb1 hb0 htn hb2 hb3 hb4;have s3:=gX (E:=EN) nO g k (n+1) cap (by omega) (by omega);change ∀ w,(ay 25 (D (U ⟨g,0,O⟩) (n+1) cap) (U (V Z k)) O O).run ah w=.ok (D (U ⟨g,k * 7,O⟩) (n+1-k) (cap-k)) w at s3;go_wp2_with (first | (at_builtin; refine wpList_copy_run rfl _ _ 25 rfl rfl rfl q2 ?_) | fail);go_ret;exact Q.out
theorem FZ (B g n cap:Nat) (cur:Array aA) (l:List iq) (k:Nat) (c:iq) (b:Nat) (W:aj) (hn:n=l.length) (hg:dK W g cur 66) (hcm:cap<=maxLen) (hnc:n<=cap) (ht:cur.toList.take (n * 7)=flat EN l) (hx:dK W b (iH c).toArray 66) (hk:k<n) (hroom:cap<n+1) (hl:n<=900) (hB:B<=W.heap.size) :
  bG ah 147 #[D (U ⟨g,0,O⟩) n cap,V Z k,D (U ⟨b,0,O⟩) 1 1] W (AQ B l k c (D (U ⟨g,0,O⟩) n cap) W):=by
 have hgw:=hg.lt;have hbw:=hx.lt;obtain⟨G,R1,R2,R3,hG1,hG2,r1,r2,r3,ow⟩:=wF (E:=EN) (l:=l) (k:=k) (cap:=cap) (cur:=cur) (cs:=(iH c).toArray) (c:=c) nO 3 Tryz.underlying3 (by omega) (by omega) (by omega) (by omega) (by rw [<- hn]; exact ht) W g b hg hbw;unfold maxLen at hcm hG2;have s0:=gX (E:=EN) nO g k n cap (by omega) (by omega);have s1:=kE (E:=EN) nO ⟨g,0,O⟩ k n cap (by omega);have s2:=gX (E:=EN) nO W.heap.size k (n+1) G (by omega) (by omega);have s3:=gX (E:=EN) nO W.heap.size (k+1) (n+1) G (by omega) (by omega);have a1:=r1 25;have n1:=dJ W.drew R1 66;have bl:W.drew.heap.size=W.heap.size:=rfl;rw [bl] at n1;have g1:dK (W.drew.alloc (au R1 66)) g cur 66:=dK.more (show dK W.drew g cur 66 from hg) _;have x1:dK (W.drew.alloc (au R1 66)) b (iH c).toArray 66:=dK.more (show dK W.drew b _ 66 from hx) _;have q2:=r2 (W.drew.alloc (au R1 66)) 3 (n+1-k) (G-k) n1 x1 rfl (by omega);have q3:=r3 ((W.drew.alloc (au R1 66)).setRow W.heap.size R2).drew 3 (n+1-(k+1)) (G-(k+1)) (n-k) (cap-k) (dK.set n1 R2) (dK.other g1 (by omega) R2) (by omega);have Q:=J (show AQ B l k c (D (U ⟨g,0,O⟩) n cap) W (aJ (D (U ⟨W.heap.size,0,O⟩) (n+1) G)) (((W.drew.alloc (au R1 66)).setRow W.heap.size R2).drew.setRow W.heap.size R3) from ⟨_,rfl,by rw [hn]; exact ow _ B hB (dK.set (dK.set n1 R2) R3),below_setRow (below_setRow ((aD B W).drew.alloc hB _) hB _).drew hB _,fun j hj _=>(setRow_other _ W.heap.size j _ (by omega)).trans ((setRow_other _ W.heap.size j _ (by omega)).trans (Array.getElem?_push_lt hj |>.trans (Array.getElem?_eq_getElem hj).symm))⟩);have l1:l.length+1=n+1:=by rw [hn]
 rw [l1,<- hn] at a1;clear r1 r2 r3 ow hg ht hx g1 x1 n1 bl l1;change ∀ w,(ay 25 (D (U ⟨g,0,O⟩) n cap) (U (V Z k)) O O).run ah w=.ok (D (U ⟨g,k * 7,O⟩) (n-k) (cap-k)) w at s0;change ∀ w,(ay 25 (D (U ⟨g,0,O⟩) n cap) O (U (V Z k)) O).run ah w=.ok (D (U ⟨g,0,O⟩) k cap) w at s1;change ∀ w,(ay 25 (D (U ⟨W.heap.size,0,O⟩) (n+1) G) (U (V Z k)) O O).run ah w=.ok (D (U ⟨W.heap.size,k * 7,O⟩) (n+1-k) (G-k)) w at s2;change ∀ w,(ay 25 (D (U ⟨W.heap.size,0,O⟩) (n+1) G) (U (V Z ((k:Int)+1))) O O).run ah w=.ok (D (U ⟨W.heap.size,(k+1) * 7,O⟩) (n+1-(k+1)) (G-(k+1))) w at s3;change (bI #[25,3] 25 #[D (U ⟨g,0,O⟩) k cap,V Z ((n:Int)+1-k)]).run ah W=.ok (D (U ⟨W.heap.size,0,O⟩) (n+1) G) (W.drew.alloc (au R1 66)) at a1;change (aU #[25,25] 3 #[D (U ⟨W.heap.size,k * 7,O⟩) (n+1-k) (G-k),D (U ⟨b,0,O⟩) 1 1]).run ah (W.drew.alloc (au R1 66))=.ok (V Z 1) ((W.drew.alloc (au R1 66)).setRow W.heap.size R2) at q2;change (aU #[25,25] 3 #[D (U ⟨W.heap.size,(k+1) * 7,O⟩) (n+1-(k+1)) (G-(k+1)),D (U ⟨g,k * 7,O⟩) (n-k) (cap-k)]).run ah ((W.drew.alloc (au R1 66)).setRow W.heap.size R2).drew=.ok (V Z ((l.length-k:Nat):Int)) (((W.drew.alloc (au R1 66)).setRow W.heap.size R2).drew.setRow W.heap.size R3) at q3;have e1:((k:Int) == (n:Int))=aC:=by rw [beq_eq_false_iff_ne]; omega
 have e2:decide ((cap:Int)<(n:Int)+1)=bK:=by simp; omega
 have hGn:n+1<=G:=by omega
 clear hn;generalize W.heap.size=N at *;generalize W.drew.alloc (au R1 66)=W1 at *;generalize W1.setRow N R2=W2 at *;go_enter bn,bg;go_wp2_with (first | (at_builtin; refine je rfl _ _ 25 3 rfl rfl rfl a1 ?_) | (at_builtin; refine wpList_copy_run rfl _ _ 25 rfl rfl rfl q2 ?_) | fail);clear a1 q2 s0 s1 s2 s3;have hw1:IntKind.i64.wrap ((k:Int)+1)=(k:Int)+1:=by rw [bF]; omega
 have hb1:(0:Int)<=(k:Int)+1:=by omega
 have hb0:(k:Int)+1<=(n:Int)+1:=by omega
 have htn:((k:Int)+1).toNat=k+1:=by omega
 have hb2:¬ (G=k+1):=by omega
 have hb3:(k:Int)<=(n:Int):=by omega
 have hb4:¬ (cap=k):=by omega
 have h81:n+1-(k+1)=n-k:=by omega
 rw [h81] at q3;clear h81
 go_region_law (refine iW rfl (.tmp 50) (.tmp 53) 25 rfl (v:=D (U ⟨N,(k+1) * 7,O⟩) (n-k) (G-(k+1))) (xv:=D (U ⟨g,k * 7,O⟩) (n-k) (cap-k)) (by simp [Act.eval,Act.put]) (by simp [Act.eval,Act.put]) q3 ?_)
 all_goals simp only [Exit.then]
 all_goals apply_assumption
 go_wp2;go_ret;exact Q.out
theorem yZ (B:Nat) (v:aA) (l:List iq) (k:Nat) (c:iq) (b:Nat) (W:aj) (ho:jV W B v l) (hx:dK W b (iH c).toArray 66) (hne:v.ownBlock≠U b) (hk:k<=l.length) (hl:l.length<=900) (hB:B<=W.heap.size) :
  bG ah 147 #[v,V Z k,D (U ⟨b,0,O⟩) 1 1] W (AQ B l k c v W):=by
 rcases aP k l.length with h|h
 ·rcases gM ho with⟨_,h2⟩|⟨g,cap,cur,rfl,h1,h2,h3,h4,h5,h6⟩
  ·rw [h2] at h; simp at h
  ·rcases aP cap (l.length+1) with h7|h7
   ·exact FZ B g _ cap cur l k c b W rfl h2 h4 h3 h6 hx h h7 hl hB
   ·exact Dj B g _ cap cur l k c b W rfl h1 h2 h4 h5 h6 hx (fun e=>hne (by simp [Value.ownBlock,e])) h h7 hl
 ·obtain rfl:k=l.length:=by omega
  exact Ik B v l c b W ho hx hl hB
end Av
end Go.Proofs.YtmklifheakemeaaGreat
