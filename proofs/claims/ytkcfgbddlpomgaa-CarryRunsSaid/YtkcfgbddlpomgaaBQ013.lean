/-
  Lists of attributes,. Conditions as told.
-/
import Derived.Test.YtkcfgbddlpomgaaBQ009
import Derived.Test.YtkcfgbddlpomgaaBQ008
import Derived.Maps.AppendAt
set_option maxRecDepth 100000
set_option maxHeartbeats 64000000
open _root_.Go renaming World->J,Value->V,TypeId->aD,Addr->aH
open Go.IntKind renaming i64->U
open Go.Lib renaming hid->ah
open Go.Value renaming slice->D,int->Q,string->aF,pointer->aG
open _root_.List renaming set_cons_succ->Z,getElem?_eq_some_iff->aj,getElem?_cons_zero->ak,getElem?_cons_succ->au,cons_append->ay,nil_append->aA,length_set->aB,getElem?_toArray->aC,length->aI
open _root_.Option renaming none->L,some->O
namespace Go.Proofs.Ytkcfgbddlpomgaa
namespace Rl
open Go.RowKit Pu Rw Pr
def EA:Ek An:=⟨75,46,4,48,.agg #[aF ⟨#[]⟩,.bool false,Q U 0,aF ⟨#[]⟩],At.av,At.qU⟩
theorem Bu:(Try.prog.info? 75).map (fun i=>(i.zero,i.size,i.bytes))=O (O (.agg #[aF ⟨#[]⟩,.bool false,Q U 0,aF ⟨#[]⟩]),4,48):=by kernel_rfl
theorem uM (w:J) (p:aH) (c:An) (h:∀ j u,(At.qU c)[j]?=O u->w.cell? (p.add j)=O u):(Instr.loadAt 75 (aG (O p))).run Try.prog w=.ok (At.av c) w:=by
 have h0:=h 0 _ rfl;have h1:=h 1 _ rfl;have h2:=h 2 _ rfl;have h3:=h 3 _ rfl;simp [Addr.add] at h0 h1 h2 h3;simp [go_sem,h0,h1,h2,h3]
theorem Ji:EA.Ok where
 hu:=Try.underlying46
 info:=by
  have h:=Bu;cases hi:Try.prog.info? 75 with
  | none=>rw [hi] at h; cases h
  | some i =>
   rw [hi] at h;simp only [Option.map_some,Option.some.injEq,Prod.mk.injEq] at h;exact⟨i,hi,h.1,h.2.1,h.2.2⟩
 zs:=rfl
 len:=fun _=>rfl
 one:=fun x u hu=>by
  simp only [EA,At.qU,List.mem_cons,List.not_mem_nil,or_false] at hu;rcases hu with rfl|rfl|rfl|rfl <;> rfl
 pos:=by decide
 few:=by decide
 load:=fun w p x h=>uM w p x h
abbrev kX (W:J) (v:V) (l:List An):Prop:=Row EA W v l
abbrev pR (W:J) (B:Nat) (v:V) (l:List An):Prop:=Own EA W B v l
theorem sH:∀ l:List An,flat EA l=At.kS l
 | []=>rfl
 | x::r=>by
  rw [flat,sH r]
  rfl
theorem Bv {W:J} {v:V} {l:List An}:At.oF W v l↔kX W v l:=by
 unfold At.oF kX Row;rw [sH]
structure NL (l:List An):Prop where
 rise:l.Pairwise fun x y=>Op.bytesLess x.1.toList y.1.toList=true
 five:l.length<=5
 small:∀ x∈l,x.1.size<=100/\x.2.2.2.size<=100
theorem NL.nodup {l:List An} (h:NL l):(l.map (·.1)).Nodup:=by
 rw [List.Nodup,List.pairwise_map];exact h.rise.imp fun h=>sj h
theorem uN {p:List Cn} {l:List An} (h:(l.map (·.1)).Nodup):ku p l=p.all fun c=>match l.find? fun a=>decide (a.1=c.1) with
  | some a=>cZ c.2 a.2
  | none=>false:=by
 unfold ku
 congr 1
 funext c
 cases hf:l.find? fun a=>decide (a.1=c.1) with
 | none =>
  rw [List.any_eq_false];intro a ha;have:=List.find?_eq_none.1 hf a ha;simp only [decide_eq_true_eq] at this;simp [this]
 | some a =>
  have hm:=List.mem_of_find?_eq_some hf;have he:a.1=c.1:=by simpa using List.find?_some hf
  rw [Bool.eq_iff_iff,List.any_eq_true];constructor
  ·rintro⟨b,hb,h2⟩;simp only [Bool.and_eq_true,decide_eq_true_eq] at h2;rw [uniq h hm hb (he.trans h2.1.symm)];exact h2.2
  ·intro h2;exact⟨a,hm,by simp [he,h2]⟩
end Rl
namespace Av
open Go.RowKit Go.Sort Rw Ytkcfgbddlpomgaa.Nm Pr Bk
abbrev xA (W:J) (b:Nat) (a0 a1 a2 a3:V):J:=(((W.setCell ⟨b,0,L⟩ a0).setCell ⟨b,1,L⟩ a1).setCell ⟨b,2,L⟩ a2).setCell ⟨b,3,L⟩ a3
theorem lQ {W:J} {b:Nat} {t:aD} {z0 z1 z2 z3:V} (h:dh W b #[z0,z1,z2,z3] t) (a0 a1 a2 a3:V):dh (xA W b a0 a1 a2 a3) b #[a0,a1,a2,a3] t:=by
 have h2:=dG (k:=3) (dG (k:=2) (dG (k:=1) (dG (k:=0) h a0) a1) a2) a3;simpa using h2
theorem jH {B:Nat} {W0 W:J} {b:Nat} (h:Below B W0 W) (hb:B<=b) (a0 a1 a2 a3:V):Below B W0 (xA W b a0 a1 a2 a3) :=
 (((h.setCell (p:=⟨b,0,L⟩) hb a0).setCell (p:=⟨b,1,L⟩) hb a1).setCell (p:=⟨b,2,L⟩) hb a2).setCell (p:=⟨b,3,L⟩) hb a3
theorem pU {α:Type} {E:Ek α} {W:J} {B:Nat} {v:V} {l:List α} (h:Own E W B v l) (b:Nat) (hb:b<B) (a0 a1 a2 a3:V):Own E (xA W b a0 a1 a2 a3) B v l :=
 dF (dF (dF (dF h b 0 a0 hb) b 1 a1 hb) b 2 a2 hb) b 3 a3 hb
theorem lS (x:gD) (p:List C5) (w:J) (hp:gL w (dz x.2.2.1) p) (hl:p.length<=900) :
  Calls Try.prog 11 #[gY x] w fun e w'=>(∃ v':Sl,e=.returned (gY (x.1,x.2.1,v',x.2.2.2))/\kW w' w.heap.size (dz v') p)/\Below w.heap.size w w':=by
 obtain⟨a,b,⟨s1,s2,s3⟩,q⟩:=x;obtain⟨h0,X,Y⟩:=eX w #[Q U a,Q U b,D s1 s2 s3,Q U q] #[Q U 0,Q U 0,D L 0 0,Q U 0] 36 36;have C:=ah (iK (s1,s2,s3) p _ (hp.on h0) hl);have B:=ah h0;have x2:=X.cell 2;simp only [aC,ak,au] at x2;have X:=ah X;have Y:=ah Y;clear h0 hp hl;go_enter Try.func11,Try.ntmps11;go_wp2_with fail;generalize (w.alloc (.cells #[Q U a,Q U b,D s1 s2 s3,Q U q] 36)).alloc (.cells #[Q U 0,Q U 0,D L 0 0,Q U 0] 36)=W at *;refine C.out.mono ?_;rintro e w1 ⟨⟨⟨u1,u2,u3⟩,rfl,ho⟩,hb⟩;have X1:=X.out.on hb;have Y1:=Y.out.on hb;have hs:w.heap.size<W.heap.size:=X.out.lt;have O1:=ah (dF ho w.heap.size 2 (D u1 u2 u3) hs);have XB:=ah (show dh _ _ #[Q U a,Q U b,D u1 u2 u3,Q U q] _ from by simpa using dG (k:=2) X1 (D u1 u2 u3));have YB:=ah (show dh _ _ _ _ from (RowKit.Below.heap_setCell w1 ⟨w.heap.size,2,L⟩ (D u1 u2 u3) _ (show w.heap.size+1≠w.heap.size by omega)).trans Y1);have B1:=ah ((B.out.trans (hb.mono B.out.size)).setCell (p:=⟨w.heap.size,2,L⟩) (Nat.le_refl _) (D u1 u2 u3));have y2:=X1.cell 2;have f2:=X1.fr 2;have z2:=X1.lt;simp only [aC,ak,au] at y2;clear X1 Y1 ho hb x2 C;go_upto_region 2 with fail;clear y2 f2 z2;generalize w1.setCell ⟨w.heap.size,2,L⟩ (D u1 u2 u3)=w2 at *;obtain⟨x0,x1,x2,x3⟩:=XB.out.wG;obtain⟨r0,r1,r2,r3⟩:=YB.out.wG;obtain⟨t0,t1,t2,t3⟩:=YB.out.Gb;have zz:=YB.out.lt;have hs2:w.heap.size+1<W.heap.size:=Y.out.lt;have FB:=ah (lQ YB.out (Q U a) (Q U b) (D u1 u2 u3) (Q U q));have BL:=ah (jH (b:=w.heap.size+1) B1.out (by omega) (Q U a) (Q U b) (D u1 u2 u3) (Q U q));have FO:=ah (pU O1.out (w.heap.size+1) hs2 (Q U a) (Q U b) (D u1 u2 u3) (Q U q));have HS:=ah hs;clear hs hs2;go_wp2_with fail;obtain⟨v0,v1,v2,v3⟩:=FB.out.wG;refine bodyPost_ret (v:=.agg #[Q U a,Q U b,D u1 u2 u3,Q U q]) (by simp [results,Try.results11,go_sem,v0,v1,v2,v3]) rfl ?_;exact⟨⟨(u1,u2,u3),rfl,cK FO.out (Nat.le_of_lt HS.out)⟩,BL.out⟩
theorem gG {α:Type} {E:Ek α} (K:E.Ok) {W:J} {B g n cap k:Nat} {l:List α} {x:α} (h:Own E W B (D (O ⟨g,0,L⟩) n cap) l) (hk:l[k]?=O x):∀ w,Below W.heap.size W w->∀ j u,(E.cells x)[j]?=O u->w.cell? ((⟨g,k * E.n,L⟩:aH).add j)=O u:=by
 obtain⟨ao,c,hv⟩:=(Row.dw h).len;obtain⟨rfl,rfl,rfl⟩:O ⟨g,0,L⟩=ao/\n=l.length/\cap=c:=by simpa using hv
 obtain⟨p,h1,_,h2⟩:=iW K (Row.dw h) rfl rfl hk;have h3:=ji K g k l.length cap (aj.1 hk).1 W;rw [h1] at h3;injection h3 with h4 _
 injection h4 with h5
 injection h5 with h6
 subst h6;exact h2
theorem fP {α:Type} {E:Ek α} {W:J} {B g n cap:Nat} {l:List α} (h:Own E W B (D (O ⟨g,0,L⟩) n cap) l):∃ cur,dh W g cur E.t:=by
 rcases eH h with⟨h1,_⟩|⟨g',c',cur,h1,_,h2,_⟩
 ·cases h1
 ·obtain⟨rfl,_⟩:g=g'/\True:=by simp at h1; exact⟨h1.1,trivial⟩
  exact⟨cur,h2⟩
theorem iM {W:J} {b g:Nat} {c d:Array V} {s t:aD} (hb:dh W b c s) (hg:dh W g d t) (hne:(s == t)=false):b≠g:=by
 rintro rfl;unfold dh at hb hg;rw [hb] at hg;injection hg with h
 injection h with _ h2
 rw [h2] at hne;simp at hne
def But (g:Nat) (W x:J):Prop:=(∀ k,k<W.heap.size->k≠g->x.heap[k]?=W.heap[k]?)/\W.heap.size<=x.heap.size
theorem But.box {g b:Nat} {W x:J} {cs:Array V} {t:aD} (h:But g W x) (hb:dh W b cs t) (hne:b≠g):dh x b cs t:=(h.1 b hb.lt hne).trans hb
theorem But.own {α:Type} {E:Ek α} {g:Nat} {W x:J} {B:Nat} {v:V} {l:List α} {d:Array V} {t:aD} (h:But g W x) (ho:Own E W B v l) (hg:dh W g d t) (hne:(E.t == t)=false):Own E x B v l:=by
 refine⟨ho.1,?_⟩;rcases ho.2 with h2|⟨g',cap,cur,h1,h2,h3,h4⟩
 ·exact Or.inl h2
 ·exact Or.inr ⟨g',cap,cur,h1,h2,by rw [h.1 g' (lt_of_heap h3) (iM (show dh W g' cur E.t from h3) hg hne)]; exact h3,h4⟩
theorem nJ:∀ (l:List gD) (k:Nat) (x:gD),k<l.length->flat ED (l.set k x)=((((flat ED l).set (k * 4) (Q U x.1)).set (k * 4+1) (Q U x.2.1)).set (k * 4+2) (dz x.2.2.1)).set (k * 4+3) (Q U x.2.2.2)
 | [],k,x,h=>by simp at h
 | y::r,0,x,_=>rfl
 | y::r,k+1,x,h=>by
  have ih:=nJ r k x (by simpa using h);rw [show (k+1) * 4+3=(k * 4+3)+1+1+1+1 by omega,show (k+1) * 4+2=(k * 4+2)+1+1+1+1 by omega,show (k+1) * 4+1=(k * 4+1)+1+1+1+1 by omega,show (k+1) * 4=(k * 4)+1+1+1+1 by omega];simp only [Z,flat,ED,cellsD,ay,aA] at ih ⊢;rw [ih]
theorem nK:∀ (l:List gq) (k:Nat) (x:gq) (s:Sl),l[k]?=O x->flat EN (l.set k (x.1,x.2.1,x.2.2.1,x.2.2.2.1,s,x.2.2.2.2.2.1,x.2.2.2.2.2.2))=(flat EN l).set (k * 7+4) (dz s)
 | [],k,x,s,h=>by simp at h
 | y::r,0,x,s,h=>by
  obtain rfl:y=x:=by simpa using h
  rfl
 | y::r,k+1,x,s,h=>by
  have ih:=nK r k x s (by simpa using h);rw [show (k+1) * 7+4=(k * 7+4)+1+1+1+1+1+1+1 by omega];simp only [Z,flat,EN,fC,ay,aA] at ih ⊢;rw [ih]
theorem nL:∀ (l:List lg) (k:Nat) (x:lg) (s:Sl),l[k]?=O x->flat EW (l.set k (x.1,x.2.1,s))=(flat EW l).set (k * 3+2) (dz s)
 | [],k,x,s,h=>by simp at h
 | y::r,0,x,s,h=>by
  obtain rfl:y=x:=by simpa using h
  rfl
 | y::r,k+1,x,s,h=>by
  have ih:=nL r k x s (by simpa using h);rw [show (k+1) * 3+2=(k * 3+2)+1+1+1 by omega];simp only [Z,flat,EW,ou,ay,aA] at ih ⊢;rw [ih]
def Bw {α:Type} (E:Ek α) (B g:Nat) (v:V) (l:List α) (w w':J):Prop:=Own E w' B v l/\But g w w'/\(∀ B' W,B'<=g->Below B' W w->Below B' W w')
theorem dn (w:J) (g j:Nat) (u:V):But g w (w.setCell ⟨g,j,L⟩ u):=⟨fun k _ hk=>RowKit.Below.heap_setCell w ⟨g,j,L⟩ u k hk,by simp⟩
theorem But.trans {g:Nat} {a b c:J} (h1:But g a b) (h2:But g b c):But g a c:=⟨fun k hk hne=>(h2.1 k (Nat.lt_of_lt_of_le hk h1.2) hne).trans (h1.1 k hk hne),Nat.le_trans h1.2 h2.2⟩
theorem But.of_below {g:Nat} {a b:J} (h:Below a.heap.size a b):But g a b:=⟨fun k hk _=>h.block k hk,h.size⟩
theorem Bz {w:J} {B g n cap k:Nat} {l:List gD} (x:gD) (h:jD w B (D (O ⟨g,0,L⟩) n cap) l) (hk:k<l.length) :
  ∃ w',(Instr.storeAt 36 (aG (O ⟨g,k * 4,L⟩)) (gY x)).run Try.prog w=.ok () w'/\Bw ED B g (D (O ⟨g,0,L⟩) n cap) (l.set k x) w w':=by
 obtain⟨y,hy⟩:∃ y,l[k]?=O y:=⟨_,List.getElem?_eq_getElem hk⟩;have c:=gG okD h hy w (Below.refl _ _);have c0:=c 0 _ rfl;have c1:=c 1 _ rfl;have c2:=c 2 _ rfl;have c3:=c 3 _ rfl;simp [Addr.add,ED] at c0 c1 c2 c3;obtain⟨cur,hb⟩:=fP h;have f:=fun j=>hb.fr j;obtain⟨ao,c',hv⟩:=(Row.dw h).len;obtain⟨_,rfl,_⟩:O ⟨g,0,L⟩=ao/\n=l.length/\cap=c':=by simpa using hv
 have h:w.ownsRow B 36 4 (D (O ⟨g,0,L⟩) l.length cap) l.length (flat ED l):=h;have s1:=(h.stored (k * 4) (Q U x.1)).1;have s2:=(s1.stored (k * 4+1) (Q U x.2.1)).1;have s3:=(s2.stored (k * 4+2) (dz x.2.2.1)).1;have s4:=(s3.stored (k * 4+3) (Q U x.2.2.2)).1;refine⟨(((w.setCell ⟨g,k * 4,L⟩ (Q U x.1)).setCell ⟨g,k * 4+1,L⟩ (Q U x.2.1)).setCell ⟨g,k * 4+2,L⟩ (dz x.2.2.1)).setCell ⟨g,k * 4+3,L⟩ (Q U x.2.2.2),?_,?_,((dn _ g _ _).trans (dn _ g _ _)).trans ((dn _ g _ _).trans (dn _ g _ _)),fun B' W hB hb=>(((hb.setCell (p:=⟨g,_,L⟩) hB _).setCell (p:=⟨g,_,L⟩) hB _).setCell (p:=⟨g,_,L⟩) hB _).setCell (p:=⟨g,_,L⟩) hB _⟩
 ·simp [go_sem,c0,c1,c2,c3,f]
 ·have e:=nJ l k x hk;show World.ownsRow _ B 36 4 _ (l.set k x).length (flat ED (l.set k x));rw [e,aB];exact s4
theorem BD {w:J} {B g n cap k:Nat} {l:List gq} {x:gq} (s1:Option aH) (s2 s3:Nat) (h:iZ w B (D (O ⟨g,0,L⟩) n cap) l) (hk:l[k]?=O x) :
  ∃ w',(Instr.storeAt 34 (aG (O ⟨g,k * 7+4,L⟩)) (D s1 s2 s3)).run Try.prog w=.ok () w'/\Bw EN B g (D (O ⟨g,0,L⟩) n cap) (l.set k (x.1,x.2.1,x.2.2.1,x.2.2.2.1,(s1,s2,s3),x.2.2.2.2.2.1,x.2.2.2.2.2.2)) w w':=by
 have c:=gG ko h hk w (Below.refl _ _);have c4:=c 4 _ rfl;simp [Addr.add,EN] at c4;obtain⟨cur,hb⟩:=fP h;have f:=hb.fr (k * 7+4);obtain⟨ao,c',hv⟩:=(Row.dw h).len;obtain⟨_,rfl,_⟩:O ⟨g,0,L⟩=ao/\n=l.length/\cap=c':=by simpa using hv
 have h:w.ownsRow B 41 7 (D (O ⟨g,0,L⟩) l.length cap) l.length (flat EN l):=h;have t1:=(h.stored (k * 7+4) (D s1 s2 s3)).1;refine⟨w.setCell ⟨g,k * 7+4,L⟩ (D s1 s2 s3),by simp [go_sem,c4,f],?_,dn _ g _ _,fun B' W hB hb=>hb.setCell (p:=⟨g,_,L⟩) hB _⟩;have e:=nK l k x (s1,s2,s3) hk;show World.ownsRow _ B 41 7 _ (aI _) (flat EN _);rw [e,aB];exact t1
theorem BI {w:J} {B g n cap k:Nat} {l:List lg} {x:lg} (s1:Option aH) (s2 s3:Nat) (h:oz w B (D (O ⟨g,0,L⟩) n cap) l) (hk:l[k]?=O x) :
  ∃ w',(Instr.storeAt 34 (aG (O ⟨g,k * 3+2,L⟩)) (D s1 s2 s3)).run Try.prog w=.ok () w'/\Bw EW B g (D (O ⟨g,0,L⟩) n cap) (l.set k (x.1,x.2.1,(s1,s2,s3))) w w':=by
 have c:=gG okW h hk w (Below.refl _ _);have c2:=c 2 _ rfl;simp [Addr.add,EW] at c2;obtain⟨cur,hb⟩:=fP h;have f:=hb.fr (k * 3+2);obtain⟨ao,c',hv⟩:=(Row.dw h).len;obtain⟨_,rfl,_⟩:O ⟨g,0,L⟩=ao/\n=l.length/\cap=c':=by simpa using hv
 have h:w.ownsRow B 84 3 (D (O ⟨g,0,L⟩) l.length cap) l.length (flat EW l):=h;have t1:=(h.stored (k * 3+2) (D s1 s2 s3)).1;refine⟨w.setCell ⟨g,k * 3+2,L⟩ (D s1 s2 s3),by simp [go_sem,c2,f],?_,dn _ g _ _,fun B' W hB hb=>hb.setCell (p:=⟨g,_,L⟩) hB _⟩;have e:=nL l k x (s1,s2,s3) hk;show World.ownsRow _ B 84 3 _ (aI _) (flat EW _);rw [e,aB];exact t1
theorem dJ.set {α β:Type} {R:α->β->Prop}:∀ {l:List α} {m:List β} (k:Nat) (a:α) (b:β),dJ R l m->m[k]?=O b->R a b->dJ R (l.set k a) m
 | _,_,_,_,_,.nil,h,_=>by simp at h
 | _,_,0,a,b,.cons x t,h,hr=>by
  simp at h;subst h;exact .cons hr t
 | _,_,k+1,a,b,.cons x t,h,hr=>.cons x (dJ.set k a b t (by simpa using h) hr)
def PM (w0:J) (B:Nat) (wr:J) (v:V) (p:List C5):Prop:=gL w0 v p\/kW wr B v p
def qJ (w0:J) (B:Nat) (wr:J) (x:gD) (a:Ad):Prop:=(x.1,x.2.1)=a.id/\x.2.2.2=a.par/\PM w0 B wr (dz x.2.2.1) a.p
def mV (w0:J) (B:Nat) (wr:J) (x:gq) (a:En):Prop:=(x.1,x.2.1)=a.tree/\(x.2.2.1,x.2.2.2.1)=a.sub/\x.2.2.2.2.2.1=a.from_/\x.2.2.2.2.2.2=a.up/\PM w0 B wr (dz x.2.2.2.2.1) a.p
def sI (w0:J) (B:Nat) (wr:J) (x:lg) (a:Ow):Prop:=(x.1,x.2.1)=a.id/\PM w0 B wr (dz x.2.2) a.p
theorem PM.grow {w0 wr x:J} {B:Nat} {v:V} {p:List C5} (h:PM w0 B wr v p) (hb:Below wr.heap.size wr x):PM w0 B x v p:=h.imp id fun h=>Bk.dx h hb
theorem PM.but {w0 wr x:J} {B:Nat} {v:V} {p:List C5} {g:Nat} {d:Array V} {t:aD} (h:PM w0 B wr v p) (hb:But g wr x) (hg:dh wr g d t) (hne:(38 == t)=false):PM w0 B x v p:=h.imp id fun h=>hb.own h hg hne
theorem PM.row {w0 wr:J} {B:Nat} {v:V} {p:List C5} (h:PM w0 B wr v p) (hb:Below w0.heap.size w0 wr):gL wr v p:=h.elim (fun h=>h.on hb) Row.dw
theorem qJ.grow {w0 wr x:J} {B:Nat} {y:gD} {a:Ad} (h:qJ w0 B wr y a) (hb:Below wr.heap.size wr x):qJ w0 B x y a:=⟨h.1,h.2.1,h.2.2.grow hb⟩
theorem mV.grow {w0 wr x:J} {B:Nat} {y:gq} {a:En} (h:mV w0 B wr y a) (hb:Below wr.heap.size wr x):mV w0 B x y a:=⟨h.1,h.2.1,h.2.2.1,h.2.2.2.1,h.2.2.2.2.grow hb⟩
theorem sI.grow {w0 wr x:J} {B:Nat} {y:lg} {a:Ow} (h:sI w0 B wr y a) (hb:Below wr.heap.size wr x):sI w0 B x y a:=⟨h.1,h.2.grow hb⟩
theorem qJ.but {w0 wr x:J} {B:Nat} {y:gD} {a:Ad} {g:Nat} {d:Array V} {t:aD} (h:qJ w0 B wr y a) (hb:But g wr x) (hg:dh wr g d t) (hne:(38 == t)=false):qJ w0 B x y a:=⟨h.1,h.2.1,h.2.2.but hb hg hne⟩
theorem mV.but {w0 wr x:J} {B:Nat} {y:gq} {a:En} {g:Nat} {d:Array V} {t:aD} (h:mV w0 B wr y a) (hb:But g wr x) (hg:dh wr g d t) (hne:(38 == t)=false):mV w0 B x y a:=⟨h.1,h.2.1,h.2.2.1,h.2.2.2.1,h.2.2.2.2.but hb hg hne⟩
theorem sI.but {w0 wr x:J} {B:Nat} {y:lg} {a:Ow} {g:Nat} {d:Array V} {t:aD} (h:sI w0 B wr y a) (hb:But g wr x) (hg:dh wr g d t) (hne:(38 == t)=false):sI w0 B x y a:=⟨h.1,h.2.but hb hg hne⟩
def vw (w:J):J:={ w with heap:=#[] }
theorem zK (w:J) (a:aH):(vw w).cell? a=L:=by
 unfold World.cell? vw;simp
theorem q9 {α:Type} {E:Ek α} {w x:J} {v:V} {l:List α} (h:Row E (vw w) v l):Row E x v l:=by
 rcases h with h|⟨a,cap,h1,h2,h3,h4⟩
 ·exact Or.inl h
 ·refine Or.inr ⟨a,cap,h1,h2,h3,fun j u hj=>?_⟩;have h5:=h4 j u hj;rw [zK] at h5;cases h5
theorem jB {α:Type}:∀ (l:List α) (k:Nat) (x:α),k<l.length->(l.set k x).take (k+1)=l.take k++[x]
 | [],k,x,h=>absurd h (Nat.not_lt_zero k)
 | _::_,0,_,_=>rfl
 | a::l,k+1,x,h=>by
  rw [Z,List.take_succ_cons,jB l k x (by simpa using h)]
  rfl
theorem kE {α β:Type} {R:α->β->Prop} {l:List α} {m:List β} {k:Nat} {x:α} {y:β} (h:dJ R (l.take k) (m.take k)) (hk:k<l.length) (hy:m[k]?=O y) (hx:R x y):dJ R ((l.set k x).take (k+1)) (m.take (k+1)):=by
 rw [jB l k x hk,List.take_add_one,hy];exact h.append (.cons hx .nil)
structure Cp (w0:J) (B:Nat) (wr:J) (b:Br) (nv av sv ev ov:Sl):Prop where
 near:gK wr B (dz nv) b.near
 seen:pG wr B (dz sv) b.seen
 dU:∃ l,jD wr B (dz av) l/\dJ (qJ w0 B wr) l b.dU
 ent:∃ l,iZ wr B (dz ev) l/\dJ (mV w0 B wr) l b.ent
 own:∃ l,oz wr B (dz ov) l/\dJ (sI w0 B wr) l b.own
theorem Cp.grow {w0 wr x:J} {B:Nat} {b:Br} {nv av sv ev ov:Sl} (h:Cp w0 B wr b nv av sv ev ov) (hb:Below wr.heap.size wr x):Cp w0 B x b nv av sv ev ov where
 near:=Bk.dx h.near hb
 seen:=Bk.dx h.seen hb
 dU:=by obtain⟨l,h1,h2⟩:=h.dU; exact⟨l,Bk.dx h1 hb,h2.mono fun _ _ h=>h.grow hb⟩
 ent:=by obtain⟨l,h1,h2⟩:=h.ent; exact⟨l,Bk.dx h1 hb,h2.mono fun _ _ h=>h.grow hb⟩
 own:=by obtain⟨l,h1,h2⟩:=h.own; exact⟨l,Bk.dx h1 hb,h2.mono fun _ _ h=>h.grow hb⟩
theorem Cp.but {w0 wr x:J} {B:Nat} {b:Br} {nv av sv ev ov:Sl} (h:Cp w0 B wr b nv av sv ev ov) {g:Nat} {d:Array V} (hb:But g wr x) (hg:dh wr g d 30):Cp w0 B x b nv av sv ev ov where
 near:=hb.own h.near hg (by decide)
 seen:=hb.own h.seen hg (by decide)
 dU:=by obtain⟨l,h1,h2⟩:=h.dU; exact⟨l,hb.own h1 hg (by decide),h2.mono fun _ _ h=>h.but hb hg (by decide)⟩
 ent:=by obtain⟨l,h1,h2⟩:=h.ent; exact⟨l,hb.own h1 hg (by decide),h2.mono fun _ _ h=>h.but hb hg (by decide)⟩
 own:=by obtain⟨l,h1,h2⟩:=h.own; exact⟨l,hb.own h1 hg (by decide),h2.mono fun _ _ h=>h.but hb hg (by decide)⟩
structure Cs (w0 w wr:J) (b:Br) (kd kn kw:Nat) (nv av sv ev ov:Sl):Prop where
 jw:Below w.heap.size w wr
 bx:dh wr w.heap.size #[Q U b.me,dz nv,dz av,dz sv,dz ev,dz ov] 30
 bz:dh wr (w.heap.size+1) #[Q U 0,D L 0 0,D L 0 0,D L 0 0,D L 0 0,D L 0 0] 30
 near:gK wr w.heap.size (dz nv) b.near
 seen:pG wr w.heap.size (dz sv) b.seen
 dU:∃ l,jD wr w.heap.size (dz av) l/\dJ (qJ w0 w.heap.size wr) l b.dU/\dJ (qJ (vw w0) w.heap.size wr) (l.take kd) (b.dU.take kd)
 ent:∃ l,iZ wr w.heap.size (dz ev) l/\dJ (mV w0 w.heap.size wr) l b.ent/\dJ (mV (vw w0) w.heap.size wr) (l.take kn) (b.ent.take kn)
 own:∃ l,oz wr w.heap.size (dz ov) l/\dJ (sI w0 w.heap.size wr) l b.own/\dJ (sI (vw w0) w.heap.size wr) (l.take kw) (b.own.take kw)
theorem Cs.xA {w0 w wr x:J} {b:Br} {kd kn kw kd':Nat} {nv sv ev ov:Sl} {g n cap:Nat} {l l':List gD} (h:Cs w0 w wr b kd kn kw nv (O ⟨g,0,L⟩,n,cap) sv ev ov) (ho:jD wr w.heap.size (D (O ⟨g,0,L⟩) n cap) l) (hx:jD x w.heap.size (D (O ⟨g,0,L⟩) n cap) l') (hb:But g wr x) (hw:Below w.heap.size w x) (hA:dJ (qJ w0 w.heap.size x) l' b.dU) (hV:dJ (qJ (vw w0) w.heap.size x) (l'.take kd') (b.dU.take kd')):Cs w0 w x b kd' kn kw nv (O ⟨g,0,L⟩,n,cap) sv ev ov:=by
 obtain⟨cur,hg⟩:=fP ho;exact {
  jw:=hw
  bx:=hb.box h.bx (iM h.bx hg (by decide))
  bz:=hb.box h.bz (iM h.bz hg (by decide))
  near:=hb.own h.near hg (by decide)
  seen:=hb.own h.seen hg (by decide)
  dU:=⟨l',hx,hA,hV⟩
  ent:=by obtain⟨l,h1,h2,h3⟩:=h.ent; exact⟨l,hb.own h1 hg (by decide),h2.mono fun _ _ h=>h.but hb hg (by decide),h3.mono fun _ _ h=>h.but hb hg (by decide)⟩
  own:=by obtain⟨l,h1,h2,h3⟩:=h.own; exact⟨l,hb.own h1 hg (by decide),h2.mono fun _ _ h=>h.but hb hg (by decide),h3.mono fun _ _ h=>h.but hb hg (by decide)⟩ }
theorem Cs.Gl {w0 w wr x:J} {b:Br} {kd kn kw Gm:Nat} {nv av sv ov:Sl} {g n cap:Nat} {l l':List gq} (h:Cs w0 w wr b kd kn kw nv av sv (O ⟨g,0,L⟩,n,cap) ov) (ho:iZ wr w.heap.size (D (O ⟨g,0,L⟩) n cap) l) (hx:iZ x w.heap.size (D (O ⟨g,0,L⟩) n cap) l') (hb:But g wr x) (hw:Below w.heap.size w x) (hA:dJ (mV w0 w.heap.size x) l' b.ent) (hV:dJ (mV (vw w0) w.heap.size x) (l'.take Gm) (b.ent.take Gm)):Cs w0 w x b kd Gm kw nv av sv (O ⟨g,0,L⟩,n,cap) ov:=by
 obtain⟨cur,hg⟩:=fP ho;exact {
  jw:=hw
  bx:=hb.box h.bx (iM h.bx hg (by decide))
  bz:=hb.box h.bz (iM h.bz hg (by decide))
  near:=hb.own h.near hg (by decide)
  seen:=hb.own h.seen hg (by decide)
  dU:=by obtain⟨l,h1,h2,h3⟩:=h.dU; exact⟨l,hb.own h1 hg (by decide),h2.mono fun _ _ h=>h.but hb hg (by decide),h3.mono fun _ _ h=>h.but hb hg (by decide)⟩
  ent:=⟨l',hx,hA,hV⟩
  own:=by obtain⟨l,h1,h2,h3⟩:=h.own; exact⟨l,hb.own h1 hg (by decide),h2.mono fun _ _ h=>h.but hb hg (by decide),h3.mono fun _ _ h=>h.but hb hg (by decide)⟩ }
theorem Cs.setW {w0 w wr x:J} {b:Br} {kd kn kw Gn:Nat} {nv av sv ev:Sl} {g n cap:Nat} {l l':List lg} (h:Cs w0 w wr b kd kn kw nv av sv ev (O ⟨g,0,L⟩,n,cap)) (ho:oz wr w.heap.size (D (O ⟨g,0,L⟩) n cap) l) (hx:oz x w.heap.size (D (O ⟨g,0,L⟩) n cap) l') (hb:But g wr x) (hw:Below w.heap.size w x) (hA:dJ (sI w0 w.heap.size x) l' b.own) (hV:dJ (sI (vw w0) w.heap.size x) (l'.take Gn) (b.own.take Gn)):Cs w0 w x b kd kn Gn nv av sv ev (O ⟨g,0,L⟩,n,cap):=by
 obtain⟨cur,hg⟩:=fP ho;exact {
  jw:=hw
  bx:=hb.box h.bx (iM h.bx hg (by decide))
  bz:=hb.box h.bz (iM h.bz hg (by decide))
  near:=hb.own h.near hg (by decide)
  seen:=hb.own h.seen hg (by decide)
  dU:=by obtain⟨l,h1,h2,h3⟩:=h.dU; exact⟨l,hb.own h1 hg (by decide),h2.mono fun _ _ h=>h.but hb hg (by decide),h3.mono fun _ _ h=>h.but hb hg (by decide)⟩
  ent:=by obtain⟨l,h1,h2,h3⟩:=h.ent; exact⟨l,hb.own h1 hg (by decide),h2.mono fun _ _ h=>h.but hb hg (by decide),h3.mono fun _ _ h=>h.but hb hg (by decide)⟩
  own:=⟨l',hx,hA,hV⟩ }
end Av
namespace At
open Go.RowKit Va In
def nm (i:Nat):ByteArray:=⟨#[UInt8.ofNat (97+i)]⟩
end At
namespace At
open Go.RowKit Go.Sort Va In
theorem uO {W:J} {lv:V} {l:List A4} {ao:Option aH} {n c k:Nat} {x:A4} (h:oF W lv l) (hv:lv=D ao n c) (hn:l.length=n) (hk:l[k]?=O x) :
  ∃ p:aH,(∀ w,(Instr.indexAt 46 (D ao n c) (Q U k)).run Try.prog w=.ok (aG (O p)) w)/\∀ w,Below W.heap.size W w ->
   w.cell? p=O (aF x.1)/\w.cell? ⟨p.block,p.off+1,L⟩=O (.bool x.2.1)/\w.cell? ⟨p.block,p.off+2,L⟩=O (Q U x.2.2.1)/\w.cell? ⟨p.block,p.off+3,L⟩=O (aF x.2.2.2):=by
 have hlt:=(aj.1 hk).1;rcases h with⟨rfl,_⟩|⟨a,cap,h1,h2,h3,h4⟩
 ·simp at hk
 ·rw [hv] at h1;obtain⟨rfl,rfl,rfl⟩:ao=O a/\n=l.length/\c=cap:=by simpa using h1
  refine⟨a.add (k * 4),fun w=>qV a k _ _ hlt w,fun w hb=>?_⟩;have hf:=pK l k x hk;have e1:∀ j,j≠0->(⟨(a.add (k * 4)).block,(a.add (k * 4)).off+j,L⟩:aH)=a.add (k * 4+j):=fun j hj=>by
   have h5:∀ b:aH,b.add j=⟨b.block,b.off+j,L⟩:=fun b=>by unfold Addr.add; rw [if_neg hj]
   rw [<- add_add,h5]
  have g:∀ j u,(kS l)[j]?=O u->w.cell? (a.add j)=O u:=fun j u hj=>by
   have hc:=h4 j u hj;rw [hb.cell (World.block_lt_of_cell? W _ hc)]; exact hc
  rw [e1 1 (by decide),e1 2 (by decide),e1 3 (by decide)];exact⟨g _ _ hf.1,g _ _ hf.2.1,g _ _ hf.2.2.1,g _ _ hf.2.2.2⟩
def Bo (c:UInt8):Bool:=decide (97<=c.toNat) && decide (c.toNat<=122)
def wM (s:ByteArray):Bool:=s.data.toList.all Bo && (decide (1<=s.size) && decide (s.size<=12))
end At
namespace Pr
open Go.RowKit Go.Sort Pu Rw
end Pr
namespace Pr
open Go.RowKit Go.ChangeShapes Go.WideShapes In
end Pr
end Go.Proofs.Ytkcfgbddlpomgaa
