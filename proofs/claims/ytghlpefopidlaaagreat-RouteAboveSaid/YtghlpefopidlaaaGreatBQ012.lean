/-
  Messages: which are . Conditions as told.
-/
import Derived.Test.YtghlpefopidlaaaGreatBQ007
import Derived.Test.YtghlpefopidlaaaGreatBQ010
import Derived.Test.YtghlpefopidlaaaGreatBQ011
set_option maxRecDepth 100000
set_option maxHeartbeats 64000000
open _root_.Bool renaming false->au
open _root_.Go renaming World->D,Value->V,TypeId->aj,Addr->aH
open Go.IntKind renaming i64->U
open Go.Lib renaming hid->ah
open Go.Value renaming slice->J,int->Q,pointer->aI
open _root_.List renaming set_cons_succ->Z,getElem?_eq_some_iff->ak,getElem?_cons_zero->ay,getElem?_cons_succ->aA,cons_append->aB,nil_append->aC,length_set->aD,getElem?_toArray->aF,take_add_one->aG,length->aJ
open _root_.Option renaming none->L,some->O
namespace Go.Proofs.YtghlpefopidlaaaGreat
namespace Wr
open YtghlpefopidlaaaGreat.Nm At Pr
def I8 (c:C5):Bool:=kR c.1 && (if c.2.1=1 then decide (c.2.2.2.2.size=0) && decide (c.2.2.1<=c.2.2.2.1) else if c.2.1=2 then decide (c.2.2.1=0) && (decide (c.2.2.2.1=0) && decide (c.2.2.2.2.size<=12)) else if c.2.1=3 then decide (c.2.2.1=0) && (decide (c.2.2.2.1=0) && decide (c.2.2.2.2.size<=11)) else au)
def Wn (p x:C5):Bool:=Op.bytesLess p.1.toList x.1.toList
def Ll (l:List C5) (k:Nat):Bool:=match l[k]? with
 | some x=>I8 x && (k == 0 || (match l[k-1]? with
  | some p=>Wn p x
  | none=>true))
 | none=>true
def gX (l:List C5):Bool:=(List.range l.length).all (Ll l) && decide (l.length<=5)
theorem EK (l:List C5) (h:∀ j,j<l.length->Ll l j=true):gX l=decide (l.length<=5):=by
 unfold gX;rw [List.all_eq_true.2 fun j hj=>h j (List.mem_range.1 hj),Bool.true_and]
end Wr
namespace Av
open Go.RowKit Go.Sort Rw YtghlpefopidlaaaGreat.Nm Pr Bk
abbrev Lm (W:D) (b:Nat) (a0 a1 a2 a3:V):D:=(((W.setCell ⟨b,0,L⟩ a0).setCell ⟨b,1,L⟩ a1).setCell ⟨b,2,L⟩ a2).setCell ⟨b,3,L⟩ a3
theorem vK {W:D} {b:Nat} {t:aj} {z0 z1 z2 z3:V} (h:dG W b #[z0,z1,z2,z3] t) (a0 a1 a2 a3:V):dG (Lm W b a0 a1 a2 a3) b #[a0,a1,a2,a3] t:=by
 have h2:=eu (k:=3) (eu (k:=2) (eu (k:=1) (eu (k:=0) h a0) a1) a2) a3;simpa using h2
theorem qK {B:Nat} {W0 W:D} {b:Nat} (h:Below B W0 W) (hb:B<=b) (a0 a1 a2 a3:V):Below B W0 (Lm W b a0 a1 a2 a3) :=
 (((h.setCell (p:=⟨b,0,L⟩) hb a0).setCell (p:=⟨b,1,L⟩) hb a1).setCell (p:=⟨b,2,L⟩) hb a2).setCell (p:=⟨b,3,L⟩) hb a3
theorem Ck {α:Type} {E:Ek α} {W:D} {B:Nat} {v:V} {l:List α} (h:Own E W B v l) (b:Nat) (hb:b<B) (a0 a1 a2 a3:V):Own E (Lm W b a0 a1 a2 a3) B v l :=
 eO (eO (eO (eO h b 0 a0 hb) b 1 a1 hb) b 2 a2 hb) b 3 a3 hb
theorem vL (x:jS) (p:List C5) (w:D) (hp:fF w (dQ x.2.2.1) p) (hl:p.length<=900) :
  Calls Tryz.prog 35 #[lJ x] w fun e w'=>(∃ v':Sl,e=.returned (lJ (x.1,x.2.1,v',x.2.2.2))/\iE w' w.heap.size (dQ v') p)/\Below w.heap.size w w':=by
 obtain⟨a,b,⟨s1,s2,s3⟩,q⟩:=x;obtain⟨h0,X,Y⟩:=jd w #[Q U a,Q U b,J s1 s2 s3,Q U q] #[Q U 0,Q U 0,J L 0 0,Q U 0] 36 36;have C:=ah (jW (s1,s2,s3) p _ (hp.on h0) hl);have B:=ah h0;have x2:=X.cell 2;simp only [aF,ay,aA] at x2;have X:=ah X;have Y:=ah Y;clear h0 hp hl;go_enter Tryz.func35,Tryz.ntmps35;go_wp2_with fail;generalize (w.alloc (.cells #[Q U a,Q U b,J s1 s2 s3,Q U q] 36)).alloc (.cells #[Q U 0,Q U 0,J L 0 0,Q U 0] 36)=W at *;refine C.out.mono ?_;rintro e w1 ⟨⟨⟨u1,u2,u3⟩,rfl,ho⟩,hb⟩;have X1:=X.out.on hb;have Y1:=Y.out.on hb;have hs:w.heap.size<W.heap.size:=X.out.lt;have O1:=ah (eO ho w.heap.size 2 (J u1 u2 u3) hs);have XB:=ah (show dG _ _ #[Q U a,Q U b,J u1 u2 u3,Q U q] _ from by simpa using eu (k:=2) X1 (J u1 u2 u3));have YB:=ah (show dG _ _ _ _ from (RowKit.Below.heap_setCell w1 ⟨w.heap.size,2,L⟩ (J u1 u2 u3) _ (show w.heap.size+1≠w.heap.size by omega)).trans Y1);have B1:=ah ((B.out.trans (hb.mono B.out.size)).setCell (p:=⟨w.heap.size,2,L⟩) (Nat.le_refl _) (J u1 u2 u3));have y2:=X1.cell 2;have f2:=X1.fr 2;have z2:=X1.lt;simp only [aF,ay,aA] at y2;clear X1 Y1 ho hb x2 C;go_upto_region 2 with fail;clear y2 f2 z2;generalize w1.setCell ⟨w.heap.size,2,L⟩ (J u1 u2 u3)=w2 at *;obtain⟨x0,x1,x2,x3⟩:=XB.out.Gq;obtain⟨r0,r1,r2,r3⟩:=YB.out.Gq;obtain⟨t0,t1,t2,t3⟩:=YB.out.ZH;have zz:=YB.out.lt;have hs2:w.heap.size+1<W.heap.size:=Y.out.lt;have FB:=ah (vK YB.out (Q U a) (Q U b) (J u1 u2 u3) (Q U q));have BL:=ah (qK (b:=w.heap.size+1) B1.out (by omega) (Q U a) (Q U b) (J u1 u2 u3) (Q U q));have FO:=ah (Ck O1.out (w.heap.size+1) hs2 (Q U a) (Q U b) (J u1 u2 u3) (Q U q));have HS:=ah hs;clear hs hs2;go_wp2_with fail;obtain⟨v0,v1,v2,v3⟩:=FB.out.Gq;refine bodyPost_ret (v:=.agg #[Q U a,Q U b,J u1 u2 u3,Q U q]) (by simp [results,Tryz.results35,go_sem,v0,v1,v2,v3]) rfl ?_;exact⟨⟨(u1,u2,u3),rfl,dK FO.out (Nat.le_of_lt HS.out)⟩,BL.out⟩
end Av
namespace Bk
open Go.RowKit Rw YtghlpefopidlaaaGreat.Nm Pr
theorem vM {W:D} {b:Nat} {cs:Array V} {t:aj} (hb:dG W b cs t) {a:aH} {v:V} (h:W.cell? a=O v) (e:a.block=b):cs[a.off]?=O v:=by
 unfold World.cell? at h;unfold dG at hb;rw [e,hb] at h;have h2:a.spot=L/\cs[a.off]?=O v:=by simpa using h
 exact h2.2
theorem I9 {W W':D} {b:Nat} (hk:∀ j,j<W.heap.size->j≠b->W'.heap[j]?=W.heap[j]?) {a:aH} {v:V} (h:W.cell? a=O v) (e:a.block≠b):W'.cell? a=O v:=by
 have hlt:=World.block_lt_of_cell? W _ h;unfold World.cell? at h ⊢;rw [hk _ hlt e];exact h
theorem nX (a:aH) (j:Nat):(a.add j).block=a.block:=by unfold Addr.add; split <;> rfl
theorem jh {α:Type} {E:Ek α} (_K:E.Ok) {W W':D} {b:Nat} {v:V} {l:List α} (h:Row E W v l) (hk:∀ j,j<W.heap.size->j≠b->W'.heap[j]?=W.heap[j]?) (hno:∀ (a:aH) (c:α),(∀ j u,(E.cells c)[j]?=O u->W.cell? (a.add j)=O u)->a.block≠b):Row E W' v l:=by
 rcases h with h|⟨a,cap,h1,h2,h3,h4⟩
 ·exact Or.inl h
 ·refine Or.inr ⟨a,cap,h1,h2,h3,fun j u hj=>?_⟩;cases l with
  | nil=>simp [flat] at hj
  | cons c r =>
   have hne:a.block≠b:=hno a c fun j u hj=>h4 j u (by
    rw [flat,List.getElem?_append_left (by exact (ak.1 hj).1)];exact hj)
   exact I9 hk (h4 j u hj) (by rw [nX]; exact hne)
theorem oZ {α:Type} {E:Ek α} {W:D} {b:Nat} {cs:Array V} {t:aj} (hb:dG W b cs t) (hE:∀ c:α,∃ i j:Int,(E.cells c)[0]?=O (Q U i)/\(E.cells c)[1]?=O (Q U j)) (hcs:∀ (k:Nat) (i j:Int),cs[k]?=O (Q U i)->cs[k+1]?=O (Q U j)->False) (a:aH) (c:α) (h:∀ j u,(E.cells c)[j]?=O u->W.cell? (a.add j)=O u):a.block≠b:=fun e=>by
 obtain⟨i,j,h0,h1⟩:=hE c;have c0:=vM hb (h 0 _ h0) (by rw [nX]; exact e);have c1:=vM hb (h 1 _ h1) (by rw [nX]; exact e);have o0:(a.add 0).off=a.off:=by rw [Addr.add_zero']
 have o1:(a.add 1).off=a.off+1:=by rw [add_pos _ _ (by decide)]
 rw [o0] at c0;rw [o1] at c1;exact hcs a.off i j c0 c1
theorem rA {W:D} {b:Nat} {cs:Array V} {t:aj} (hb:dG W b cs t) (hcs:∀ (k:Nat) (s:ByteArray),cs[k]?≠O (.string s)) (a:aH) (c:C5) (h:∀ j u,(EC.cells c)[j]?=O u->W.cell? (a.add j)=O u):a.block≠b:=fun e=>by
 have c0:=vM hb (h 0 _ rfl) (by rw [nX]; exact e);exact hcs _ _ c0
theorem rC (me:Int) (s1 s2 s3 s4 s5:Sl):∀ (k:Nat) (i j:Int),(nV me s1 s2 s3 s4 s5)[k]?=O (Q U i)->(nV me s1 s2 s3 s4 s5)[k+1]?=O (Q U j)->False:=by
 intro k i j h1 h2
 match k with
 | 0=>simp at h2
 | 1=>simp at h1
 | 2=>simp at h1
 | 3=>simp at h1
 | 4=>simp at h1
 | 5=>simp at h1
 | k+6=>simp at h1
theorem rD (me:Int) (s1 s2 s3 s4 s5:Sl):∀ (k:Nat) (s:ByteArray),(nV me s1 s2 s3 s4 s5)[k]?≠O (.string s):=by
 intro k s h
 match k with
 | 0=>simp at h
 | 1=>simp at h
 | 2=>simp at h
 | 3=>simp at h
 | 4=>simp at h
 | 5=>simp at h
 | k+6=>simp at h
theorem Ja {W W':D} {k:Nat} {me:Int} {s1 s2 s3 s4 s5:Sl} {b:Br} {nv av sv ev ov:Sl} (h:ny W b nv av sv ev ov) (hb:dG W k (nV me s1 s2 s3 s4 s5) 30) (hk:∀ j,j<W.heap.size->j≠k->W'.heap[j]?=W.heap[j]?) (hn:Bw W' (dQ nv) b.near):ny W' b nv av sv ev ov where
 near:=hn
 dW:=by
  obtain⟨l,h1,h2⟩:=h.dW;exact⟨l,jh okD h1 hk (oZ hb (fun c=>⟨_,_,rfl,rfl⟩) (rC me s1 s2 s3 s4 s5)),h2.mono fun x a hx=>⟨hx.1,hx.2.1,jh qZ hx.2.2 hk (rA hb (rD me s1 s2 s3 s4 s5))⟩⟩
 seen:=jh BU h.seen hk (oZ hb (fun c=>⟨_,_,rfl,rfl⟩) (rC me s1 s2 s3 s4 s5))
 ent:=by
  obtain⟨l,h1,h2⟩:=h.ent;exact⟨l,jh lY h1 hk (oZ hb (fun c=>⟨_,_,rfl,rfl⟩) (rC me s1 s2 s3 s4 s5)),h2.mono fun x a hx=>⟨hx.1,hx.2.1,hx.2.2.1,hx.2.2.2.1,jh qZ hx.2.2.2.2 hk (rA hb (rD me s1 s2 s3 s4 s5))⟩⟩
 own:=by
  obtain⟨l,h1,h2⟩:=h.own;exact⟨l,jh okW h1 hk (oZ hb (fun c=>⟨_,_,rfl,rfl⟩) (rC me s1 s2 s3 s4 s5)),h2.mono fun x a hx=>⟨hx.1,jh qZ hx.2 hk (rA hb (rD me s1 s2 s3 s4 s5))⟩⟩
end Bk
namespace Av
open Go.RowKit Go.Sort Rw YtghlpefopidlaaaGreat.Nm Pr Bk
theorem je {α:Type} {E:Ek α} (K:E.Ok) {W:D} {B g n cap k:Nat} {l:List α} {x:α} (h:Own E W B (J (O ⟨g,0,L⟩) n cap) l) (hk:l[k]?=O x):∀ w,Below W.heap.size W w->∀ j u,(E.cells x)[j]?=O u->w.cell? ((⟨g,k * E.n,L⟩:aH).add j)=O u:=by
 obtain⟨ao,c,hv⟩:=(Row.dH h).len;obtain⟨rfl,rfl,rfl⟩:O ⟨g,0,L⟩=ao/\n=l.length/\cap=c:=by simpa using hv
 obtain⟨p,h1,_,h2⟩:=qH K (Row.dH h) rfl rfl hk;have h3:=mZ K g k l.length cap (ak.1 hk).1 W;rw [h1] at h3;injection h3 with h4 _
 injection h4 with h5
 injection h5 with h6
 subst h6;exact h2
theorem iD {α:Type} {E:Ek α} {W:D} {B g n cap:Nat} {l:List α} (h:Own E W B (J (O ⟨g,0,L⟩) n cap) l):∃ cur,dG W g cur E.t:=by
 rcases eZ h with⟨h1,_⟩|⟨g',c',cur,h1,_,h2,_⟩
 ·cases h1
 ·obtain⟨rfl,_⟩:g=g'/\True:=by simp at h1; exact⟨h1.1,trivial⟩
  exact⟨cur,h2⟩
theorem jG {W:D} {b g:Nat} {c d:Array V} {s t:aj} (hb:dG W b c s) (hg:dG W g d t) (hne:(s == t)=au):b≠g:=by
 rintro rfl;unfold dG at hb hg;rw [hb] at hg;injection hg with h
 injection h with _ h2
 rw [h2] at hne;simp at hne
def But (g:Nat) (W x:D):Prop:=(∀ k,k<W.heap.size->k≠g->x.heap[k]?=W.heap[k]?)/\W.heap.size<=x.heap.size
theorem But.box {g b:Nat} {W x:D} {cs:Array V} {t:aj} (h:But g W x) (hb:dG W b cs t) (hne:b≠g):dG x b cs t:=(h.1 b hb.lt hne).trans hb
theorem But.own {α:Type} {E:Ek α} {g:Nat} {W x:D} {B:Nat} {v:V} {l:List α} {d:Array V} {t:aj} (h:But g W x) (ho:Own E W B v l) (hg:dG W g d t) (hne:(E.t == t)=au):Own E x B v l:=by
 refine⟨ho.1,?_⟩;rcases ho.2 with h2|⟨g',cap,cur,h1,h2,h3,h4⟩
 ·exact Or.inl h2
 ·exact Or.inr ⟨g',cap,cur,h1,h2,by rw [h.1 g' (lt_of_heap h3) (jG (show dG W g' cur E.t from h3) hg hne)]; exact h3,h4⟩
theorem yG:∀ (l:List jS) (k:Nat) (x:jS),k<l.length->flat ED (l.set k x)=((((flat ED l).set (k * 4) (Q U x.1)).set (k * 4+1) (Q U x.2.1)).set (k * 4+2) (dQ x.2.2.1)).set (k * 4+3) (Q U x.2.2.2)
 | [],k,x,h=>by simp at h
 | y::r,0,x,_=>rfl
 | y::r,k+1,x,h=>by
  have ih:=yG r k x (by simpa using h);rw [show (k+1) * 4+3=(k * 4+3)+1+1+1+1 by omega,show (k+1) * 4+2=(k * 4+2)+1+1+1+1 by omega,show (k+1) * 4+1=(k * 4+1)+1+1+1+1 by omega,show (k+1) * 4=(k * 4)+1+1+1+1 by omega];simp only [Z,flat,ED,cellsD,aB,aC] at ih ⊢;rw [ih]
theorem yH:∀ (l:List jl) (k:Nat) (x:jl) (s:Sl),l[k]?=O x->flat EN (l.set k (x.1,x.2.1,x.2.2.1,x.2.2.2.1,s,x.2.2.2.2.2.1,x.2.2.2.2.2.2))=(flat EN l).set (k * 7+4) (dQ s)
 | [],k,x,s,h=>by simp at h
 | y::r,0,x,s,h=>by
  obtain rfl:y=x:=by simpa using h
  rfl
 | y::r,k+1,x,s,h=>by
  have ih:=yH r k x s (by simpa using h);rw [show (k+1) * 7+4=(k * 7+4)+1+1+1+1+1+1+1 by omega];simp only [Z,flat,EN,iU,aB,aC] at ih ⊢;rw [ih]
theorem yI:∀ (l:List lZ) (k:Nat) (x:lZ) (s:Sl),l[k]?=O x->flat EW (l.set k (x.1,x.2.1,s))=(flat EW l).set (k * 3+2) (dQ s)
 | [],k,x,s,h=>by simp at h
 | y::r,0,x,s,h=>by
  obtain rfl:y=x:=by simpa using h
  rfl
 | y::r,k+1,x,s,h=>by
  have ih:=yI r k x s (by simpa using h);rw [show (k+1) * 3+2=(k * 3+2)+1+1+1 by omega];simp only [Z,flat,EW,jF,aB,aC] at ih ⊢;rw [ih]
def T9 {α:Type} (E:Ek α) (B g:Nat) (v:V) (l:List α) (w w':D):Prop:=Own E w' B v l/\But g w w'/\(∀ B' W,B'<=g->Below B' W w->Below B' W w')
theorem dR (w:D) (g j:Nat) (u:V):But g w (w.setCell ⟨g,j,L⟩ u):=⟨fun k _ hk=>RowKit.Below.heap_setCell w ⟨g,j,L⟩ u k hk,by simp⟩
theorem But.trans {g:Nat} {a b c:D} (h1:But g a b) (h2:But g b c):But g a c:=⟨fun k hk hne=>(h2.1 k (Nat.lt_of_lt_of_le hk h1.2) hne).trans (h1.1 k hk hne),Nat.le_trans h1.2 h2.2⟩
theorem But.of_below {g:Nat} {a b:D} (h:Below a.heap.size a b):But g a b:=⟨fun k hk _=>h.block k hk,h.size⟩
theorem Ua {w:D} {B g n cap k:Nat} {l:List jS} (x:jS) (h:qJ w B (J (O ⟨g,0,L⟩) n cap) l) (hk:k<l.length) :
  ∃ w',(Instr.storeAt 36 (aI (O ⟨g,k * 4,L⟩)) (lJ x)).run Tryz.prog w=.ok () w'/\T9 ED B g (J (O ⟨g,0,L⟩) n cap) (l.set k x) w w':=by
 obtain⟨y,hy⟩:∃ y,l[k]?=O y:=⟨_,List.getElem?_eq_getElem hk⟩;have c:=je okD h hy w (Below.refl _ _);have c0:=c 0 _ rfl;have c1:=c 1 _ rfl;have c2:=c 2 _ rfl;have c3:=c 3 _ rfl;simp [Addr.add,ED] at c0 c1 c2 c3;obtain⟨cur,hb⟩:=iD h;have f:=fun j=>hb.fr j;obtain⟨ao,c',hv⟩:=(Row.dH h).len;obtain⟨_,rfl,_⟩:O ⟨g,0,L⟩=ao/\n=l.length/\cap=c':=by simpa using hv
 have h:w.ownsRow B 36 4 (J (O ⟨g,0,L⟩) l.length cap) l.length (flat ED l):=h;have s1:=(h.stored (k * 4) (Q U x.1)).1;have s2:=(s1.stored (k * 4+1) (Q U x.2.1)).1;have s3:=(s2.stored (k * 4+2) (dQ x.2.2.1)).1;have s4:=(s3.stored (k * 4+3) (Q U x.2.2.2)).1;refine⟨(((w.setCell ⟨g,k * 4,L⟩ (Q U x.1)).setCell ⟨g,k * 4+1,L⟩ (Q U x.2.1)).setCell ⟨g,k * 4+2,L⟩ (dQ x.2.2.1)).setCell ⟨g,k * 4+3,L⟩ (Q U x.2.2.2),?_,?_,((dR _ g _ _).trans (dR _ g _ _)).trans ((dR _ g _ _).trans (dR _ g _ _)),fun B' W hB hb=>(((hb.setCell (p:=⟨g,_,L⟩) hB _).setCell (p:=⟨g,_,L⟩) hB _).setCell (p:=⟨g,_,L⟩) hB _).setCell (p:=⟨g,_,L⟩) hB _⟩
 ·simp [go_sem,c0,c1,c2,c3,f]
 ·have e:=yG l k x hk;show World.ownsRow _ B 36 4 _ (l.set k x).length (flat ED (l.set k x));rw [e,aD];exact s4
theorem Ub {w:D} {B g n cap k:Nat} {l:List jl} {x:jl} (s1:Option aH) (s2 s3:Nat) (h:jM w B (J (O ⟨g,0,L⟩) n cap) l) (hk:l[k]?=O x) :
  ∃ w',(Instr.storeAt 34 (aI (O ⟨g,k * 7+4,L⟩)) (J s1 s2 s3)).run Tryz.prog w=.ok () w'/\T9 EN B g (J (O ⟨g,0,L⟩) n cap) (l.set k (x.1,x.2.1,x.2.2.1,x.2.2.2.1,(s1,s2,s3),x.2.2.2.2.2.1,x.2.2.2.2.2.2)) w w':=by
 have c:=je lY h hk w (Below.refl _ _);have c4:=c 4 _ rfl;simp [Addr.add,EN] at c4;obtain⟨cur,hb⟩:=iD h;have f:=hb.fr (k * 7+4);obtain⟨ao,c',hv⟩:=(Row.dH h).len;obtain⟨_,rfl,_⟩:O ⟨g,0,L⟩=ao/\n=l.length/\cap=c':=by simpa using hv
 have h:w.ownsRow B 67 7 (J (O ⟨g,0,L⟩) l.length cap) l.length (flat EN l):=h;have t1:=(h.stored (k * 7+4) (J s1 s2 s3)).1;refine⟨w.setCell ⟨g,k * 7+4,L⟩ (J s1 s2 s3),by simp [go_sem,c4,f],?_,dR _ g _ _,fun B' W hB hb=>hb.setCell (p:=⟨g,_,L⟩) hB _⟩;have e:=yH l k x (s1,s2,s3) hk;show World.ownsRow _ B 67 7 _ (aJ _) (flat EN _);rw [e,aD];exact t1
theorem Uc {w:D} {B g n cap k:Nat} {l:List lZ} {x:lZ} (s1:Option aH) (s2 s3:Nat) (h:oP w B (J (O ⟨g,0,L⟩) n cap) l) (hk:l[k]?=O x) :
  ∃ w',(Instr.storeAt 34 (aI (O ⟨g,k * 3+2,L⟩)) (J s1 s2 s3)).run Tryz.prog w=.ok () w'/\T9 EW B g (J (O ⟨g,0,L⟩) n cap) (l.set k (x.1,x.2.1,(s1,s2,s3))) w w':=by
 have c:=je okW h hk w (Below.refl _ _);have c2:=c 2 _ rfl;simp [Addr.add,EW] at c2;obtain⟨cur,hb⟩:=iD h;have f:=hb.fr (k * 3+2);obtain⟨ao,c',hv⟩:=(Row.dH h).len;obtain⟨_,rfl,_⟩:O ⟨g,0,L⟩=ao/\n=l.length/\cap=c':=by simpa using hv
 have h:w.ownsRow B 88 3 (J (O ⟨g,0,L⟩) l.length cap) l.length (flat EW l):=h;have t1:=(h.stored (k * 3+2) (J s1 s2 s3)).1;refine⟨w.setCell ⟨g,k * 3+2,L⟩ (J s1 s2 s3),by simp [go_sem,c2,f],?_,dR _ g _ _,fun B' W hB hb=>hb.setCell (p:=⟨g,_,L⟩) hB _⟩;have e:=yI l k x (s1,s2,s3) hk;show World.ownsRow _ B 88 3 _ (aJ _) (flat EW _);rw [e,aD];exact t1
theorem eT.set {α β:Type} {R:α->β->Prop}:∀ {l:List α} {m:List β} (k:Nat) (a:α) (b:β),eT R l m->m[k]?=O b->R a b->eT R (l.set k a) m
 | _,_,_,_,_,.nil,h,_=>by simp at h
 | _,_,0,a,b,.cons x t,h,hr=>by
  simp at h;subst h;exact .cons hr t
 | _,_,k+1,a,b,.cons x t,h,hr=>.cons x (eT.set k a b t (by simpa using h) hr)
def PM (w0:D) (B:Nat) (wr:D) (v:V) (p:List C5):Prop:=fF w0 v p\/iE wr B v p
def Ee (w0:D) (B:Nat) (wr:D) (x:jS) (a:Ad):Prop:=(x.1,x.2.1)=a.id/\x.2.2.2=a.par/\PM w0 B wr (dQ x.2.2.1) a.p
def nO (w0:D) (B:Nat) (wr:D) (x:jl) (a:En):Prop:=(x.1,x.2.1)=a.tree/\(x.2.2.1,x.2.2.2.1)=a.sub/\x.2.2.2.2.2.1=a.from_/\x.2.2.2.2.2.2=a.up/\PM w0 B wr (dQ x.2.2.2.2.1) a.p
def EM (w0:D) (B:Nat) (wr:D) (x:lZ) (a:Ow):Prop:=(x.1,x.2.1)=a.id/\PM w0 B wr (dQ x.2.2) a.p
theorem PM.grow {w0 wr x:D} {B:Nat} {v:V} {p:List C5} (h:PM w0 B wr v p) (hb:Below wr.heap.size wr x):PM w0 B x v p:=h.imp id fun h=>Bk.dL h hb
theorem PM.but {w0 wr x:D} {B:Nat} {v:V} {p:List C5} {g:Nat} {d:Array V} {t:aj} (h:PM w0 B wr v p) (hb:But g wr x) (hg:dG wr g d t) (hne:(91 == t)=au):PM w0 B x v p:=h.imp id fun h=>hb.own h hg hne
theorem PM.row {w0 wr:D} {B:Nat} {v:V} {p:List C5} (h:PM w0 B wr v p) (hb:Below w0.heap.size w0 wr):fF wr v p:=h.elim (fun h=>h.on hb) Row.dH
theorem Ee.grow {w0 wr x:D} {B:Nat} {y:jS} {a:Ad} (h:Ee w0 B wr y a) (hb:Below wr.heap.size wr x):Ee w0 B x y a:=⟨h.1,h.2.1,h.2.2.grow hb⟩
theorem nO.grow {w0 wr x:D} {B:Nat} {y:jl} {a:En} (h:nO w0 B wr y a) (hb:Below wr.heap.size wr x):nO w0 B x y a:=⟨h.1,h.2.1,h.2.2.1,h.2.2.2.1,h.2.2.2.2.grow hb⟩
theorem EM.grow {w0 wr x:D} {B:Nat} {y:lZ} {a:Ow} (h:EM w0 B wr y a) (hb:Below wr.heap.size wr x):EM w0 B x y a:=⟨h.1,h.2.grow hb⟩
theorem Ee.but {w0 wr x:D} {B:Nat} {y:jS} {a:Ad} {g:Nat} {d:Array V} {t:aj} (h:Ee w0 B wr y a) (hb:But g wr x) (hg:dG wr g d t) (hne:(91 == t)=au):Ee w0 B x y a:=⟨h.1,h.2.1,h.2.2.but hb hg hne⟩
theorem nO.but {w0 wr x:D} {B:Nat} {y:jl} {a:En} {g:Nat} {d:Array V} {t:aj} (h:nO w0 B wr y a) (hb:But g wr x) (hg:dG wr g d t) (hne:(91 == t)=au):nO w0 B x y a:=⟨h.1,h.2.1,h.2.2.1,h.2.2.2.1,h.2.2.2.2.but hb hg hne⟩
theorem EM.but {w0 wr x:D} {B:Nat} {y:lZ} {a:Ow} {g:Nat} {d:Array V} {t:aj} (h:EM w0 B wr y a) (hb:But g wr x) (hg:dG wr g d t) (hne:(91 == t)=au):EM w0 B x y a:=⟨h.1,h.2.but hb hg hne⟩
def vw (w:D):D:={ w with heap:=#[] }
theorem vN {w x:D} {B:Nat} (h:Below B w x):Below (vw w).heap.size (vw w) x:=⟨h.os,h.tape,h.output,Nat.zero_le _,fun k hk=>absurd hk (Nat.not_lt_zero k)⟩
theorem P6 (w:D) (a:aH):(vw w).cell? a=L:=by
 unfold World.cell? vw;simp
theorem Ag {α:Type} {E:Ek α} {w x:D} {v:V} {l:List α} (h:Row E (vw w) v l):Row E x v l:=by
 rcases h with h|⟨a,cap,h1,h2,h3,h4⟩
 ·exact Or.inl h
 ·refine Or.inr ⟨a,cap,h1,h2,h3,fun j u hj=>?_⟩;have h5:=h4 j u hj;rw [P6] at h5;cases h5
theorem qD {α:Type}:∀ (l:List α) (k:Nat) (x:α),k<l.length->(l.set k x).take (k+1)=l.take k++[x]
 | [],k,x,h=>absurd h (Nat.not_lt_zero k)
 | _::_,0,_,_=>rfl
 | a::l,k+1,x,h=>by
  rw [Z,List.take_succ_cons,qD l k x (by simpa using h)]
  rfl
theorem sJ {α β:Type} {R:α->β->Prop} {l:List α} {m:List β} {k:Nat} {x:α} {y:β} (h:eT R (l.take k) (m.take k)) (hk:k<l.length) (hy:m[k]?=O y) (hx:R x y):eT R ((l.set k x).take (k+1)) (m.take (k+1)):=by
 rw [qD l k x hk,aG,hy];exact h.append (.cons hx .nil)
structure Cp (w0:D) (B:Nat) (wr:D) (b:Br) (nv av sv ev ov:Sl):Prop where
 near:uH wr B (dQ nv) b.near
 seen:Ca wr B (dQ sv) b.seen
 dW:∃ l,qJ wr B (dQ av) l/\eT (Ee w0 B wr) l b.dW
 ent:∃ l,jM wr B (dQ ev) l/\eT (nO w0 B wr) l b.ent
 own:∃ l,oP wr B (dQ ov) l/\eT (EM w0 B wr) l b.own
theorem Cp.grow {w0 wr x:D} {B:Nat} {b:Br} {nv av sv ev ov:Sl} (h:Cp w0 B wr b nv av sv ev ov) (hb:Below wr.heap.size wr x):Cp w0 B x b nv av sv ev ov where
 near:=Bk.dL h.near hb
 seen:=Bk.dL h.seen hb
 dW:=by obtain⟨l,h1,h2⟩:=h.dW; exact⟨l,Bk.dL h1 hb,h2.mono fun _ _ h=>h.grow hb⟩
 ent:=by obtain⟨l,h1,h2⟩:=h.ent; exact⟨l,Bk.dL h1 hb,h2.mono fun _ _ h=>h.grow hb⟩
 own:=by obtain⟨l,h1,h2⟩:=h.own; exact⟨l,Bk.dL h1 hb,h2.mono fun _ _ h=>h.grow hb⟩
theorem Cp.nY {w0 wr x:D} {B:Nat} {b:Br} {nv av sv ev ov:Sl} (h:Cp w0 B wr b nv av sv ev ov) {g:Nat} {d:Array V} {t:aj} (hb:But g wr x) (hg:dG wr g d t) (h1:(3 == t)=au) (h2:(23 == t)=au) (h3:(36 == t)=au) (h4:(67 == t)=au) (h5:(88 == t)=au) (h6:(91 == t)=au):Cp w0 B x b nv av sv ev ov where
 near:=hb.own h.near hg h1
 seen:=hb.own h.seen hg h2
 dW:=by obtain⟨l,g1,g2⟩:=h.dW; exact⟨l,hb.own g1 hg h3,g2.mono fun _ _ h=>h.but hb hg h6⟩
 ent:=by obtain⟨l,g1,g2⟩:=h.ent; exact⟨l,hb.own g1 hg h4,g2.mono fun _ _ h=>h.but hb hg h6⟩
 own:=by obtain⟨l,g1,g2⟩:=h.own; exact⟨l,hb.own g1 hg h5,g2.mono fun _ _ h=>h.but hb hg h6⟩
theorem Cp.but {w0 wr x:D} {B:Nat} {b:Br} {nv av sv ev ov:Sl} (h:Cp w0 B wr b nv av sv ev ov) {g:Nat} {d:Array V} (hb:But g wr x) (hg:dG wr g d 30):Cp w0 B x b nv av sv ev ov where
 near:=hb.own h.near hg (by decide)
 seen:=hb.own h.seen hg (by decide)
 dW:=by obtain⟨l,h1,h2⟩:=h.dW; exact⟨l,hb.own h1 hg (by decide),h2.mono fun _ _ h=>h.but hb hg (by decide)⟩
 ent:=by obtain⟨l,h1,h2⟩:=h.ent; exact⟨l,hb.own h1 hg (by decide),h2.mono fun _ _ h=>h.but hb hg (by decide)⟩
 own:=by obtain⟨l,h1,h2⟩:=h.own; exact⟨l,hb.own h1 hg (by decide),h2.mono fun _ _ h=>h.but hb hg (by decide)⟩
structure Cs (w0 w wr:D) (b:Br) (kd kn kw:Nat) (nv av sv ev ov:Sl):Prop where
 qm:Below w.heap.size w wr
 bx:dG wr w.heap.size #[Q U b.me,dQ nv,dQ av,dQ sv,dQ ev,dQ ov] 30
 bz:dG wr (w.heap.size+1) #[Q U 0,J L 0 0,J L 0 0,J L 0 0,J L 0 0,J L 0 0] 30
 near:uH wr w.heap.size (dQ nv) b.near
 seen:Ca wr w.heap.size (dQ sv) b.seen
 dW:∃ l,qJ wr w.heap.size (dQ av) l/\eT (Ee w0 w.heap.size wr) l b.dW/\eT (Ee (vw w0) w.heap.size wr) (l.take kd) (b.dW.take kd)
 ent:∃ l,jM wr w.heap.size (dQ ev) l/\eT (nO w0 w.heap.size wr) l b.ent/\eT (nO (vw w0) w.heap.size wr) (l.take kn) (b.ent.take kn)
 own:∃ l,oP wr w.heap.size (dQ ov) l/\eT (EM w0 w.heap.size wr) l b.own/\eT (EM (vw w0) w.heap.size wr) (l.take kw) (b.own.take kw)
theorem Cs.Lm {w0 w wr x:D} {b:Br} {kd kn kw kd':Nat} {nv sv ev ov:Sl} {g n cap:Nat} {l l':List jS} (h:Cs w0 w wr b kd kn kw nv (O ⟨g,0,L⟩,n,cap) sv ev ov) (ho:qJ wr w.heap.size (J (O ⟨g,0,L⟩) n cap) l) (hx:qJ x w.heap.size (J (O ⟨g,0,L⟩) n cap) l') (hb:But g wr x) (hw:Below w.heap.size w x) (hA:eT (Ee w0 w.heap.size x) l' b.dW) (hV:eT (Ee (vw w0) w.heap.size x) (l'.take kd') (b.dW.take kd')):Cs w0 w x b kd' kn kw nv (O ⟨g,0,L⟩,n,cap) sv ev ov:=by
 obtain⟨cur,hg⟩:=iD ho;exact {
  qm:=hw
  bx:=hb.box h.bx (jG h.bx hg (by decide))
  bz:=hb.box h.bz (jG h.bz hg (by decide))
  near:=hb.own h.near hg (by decide)
  seen:=hb.own h.seen hg (by decide)
  dW:=⟨l',hx,hA,hV⟩
  ent:=by obtain⟨l,h1,h2,h3⟩:=h.ent; exact⟨l,hb.own h1 hg (by decide),h2.mono fun _ _ h=>h.but hb hg (by decide),h3.mono fun _ _ h=>h.but hb hg (by decide)⟩
  own:=by obtain⟨l,h1,h2,h3⟩:=h.own; exact⟨l,hb.own h1 hg (by decide),h2.mono fun _ _ h=>h.but hb hg (by decide),h3.mono fun _ _ h=>h.but hb hg (by decide)⟩ }
theorem Cs.ZN {w0 w wr x:D} {b:Br} {kd kn kw ZO:Nat} {nv av sv ov:Sl} {g n cap:Nat} {l l':List jl} (h:Cs w0 w wr b kd kn kw nv av sv (O ⟨g,0,L⟩,n,cap) ov) (ho:jM wr w.heap.size (J (O ⟨g,0,L⟩) n cap) l) (hx:jM x w.heap.size (J (O ⟨g,0,L⟩) n cap) l') (hb:But g wr x) (hw:Below w.heap.size w x) (hA:eT (nO w0 w.heap.size x) l' b.ent) (hV:eT (nO (vw w0) w.heap.size x) (l'.take ZO) (b.ent.take ZO)):Cs w0 w x b kd ZO kw nv av sv (O ⟨g,0,L⟩,n,cap) ov:=by
 obtain⟨cur,hg⟩:=iD ho;exact {
  qm:=hw
  bx:=hb.box h.bx (jG h.bx hg (by decide))
  bz:=hb.box h.bz (jG h.bz hg (by decide))
  near:=hb.own h.near hg (by decide)
  seen:=hb.own h.seen hg (by decide)
  dW:=by obtain⟨l,h1,h2,h3⟩:=h.dW; exact⟨l,hb.own h1 hg (by decide),h2.mono fun _ _ h=>h.but hb hg (by decide),h3.mono fun _ _ h=>h.but hb hg (by decide)⟩
  ent:=⟨l',hx,hA,hV⟩
  own:=by obtain⟨l,h1,h2,h3⟩:=h.own; exact⟨l,hb.own h1 hg (by decide),h2.mono fun _ _ h=>h.but hb hg (by decide),h3.mono fun _ _ h=>h.but hb hg (by decide)⟩ }
theorem Cs.setW {w0 w wr x:D} {b:Br} {kd kn kw ZQ:Nat} {nv av sv ev:Sl} {g n cap:Nat} {l l':List lZ} (h:Cs w0 w wr b kd kn kw nv av sv ev (O ⟨g,0,L⟩,n,cap)) (ho:oP wr w.heap.size (J (O ⟨g,0,L⟩) n cap) l) (hx:oP x w.heap.size (J (O ⟨g,0,L⟩) n cap) l') (hb:But g wr x) (hw:Below w.heap.size w x) (hA:eT (EM w0 w.heap.size x) l' b.own) (hV:eT (EM (vw w0) w.heap.size x) (l'.take ZQ) (b.own.take ZQ)):Cs w0 w x b kd kn ZQ nv av sv ev (O ⟨g,0,L⟩,n,cap):=by
 obtain⟨cur,hg⟩:=iD ho;exact {
  qm:=hw
  bx:=hb.box h.bx (jG h.bx hg (by decide))
  bz:=hb.box h.bz (jG h.bz hg (by decide))
  near:=hb.own h.near hg (by decide)
  seen:=hb.own h.seen hg (by decide)
  dW:=by obtain⟨l,h1,h2,h3⟩:=h.dW; exact⟨l,hb.own h1 hg (by decide),h2.mono fun _ _ h=>h.but hb hg (by decide),h3.mono fun _ _ h=>h.but hb hg (by decide)⟩
  ent:=by obtain⟨l,h1,h2,h3⟩:=h.ent; exact⟨l,hb.own h1 hg (by decide),h2.mono fun _ _ h=>h.but hb hg (by decide),h3.mono fun _ _ h=>h.but hb hg (by decide)⟩
  own:=⟨l',hx,hA,hV⟩ }
end Av
namespace Rl
open Go.RowKit Pu Rw Pr Va
theorem Lp {α:Type} (f:α->Bool) (l:List α) (k:Nat) (y:α) (h:l[k]?=O y):(l.take (k+1)).all f=((l.take k).all f && f y):=by
 rw [aG,h,List.all_append];simp
theorem P7 {α:Type} (f:α->Bool) (l:List α) (k:Nat) (y:α) (h:l[k]?=O y) (hf:f y=au):l.all f=au:=by
 rw [List.all_eq_false];exact⟨y,List.mem_of_getElem? h,by simp [hf]⟩
end Rl
namespace Bk
open Go.RowKit Rw YtghlpefopidlaaaGreat.Nm Pr
def iw {κ:Type} [DecidableEq κ]:List κ->κ->Int
 | [],_=>-1
 | a::l,x=>if a=x then 0 else if iw l x=-1 then -1 else iw l x+1
theorem vO {κ:Type} [DecidableEq κ] (l:List κ) (x:κ) (h:∀ (j:Nat) (y:κ),l[j]?=O y->y≠x):iw l x=-1:=by
 induction l with
 | nil=>rfl
 | cons a l ih=>rw [iw,if_neg (h 0 a rfl),ih fun j y hj=>h (j+1) y (by simpa using hj),if_pos rfl]
theorem Cm {κ:Type} [DecidableEq κ] (l:List κ) (k:Nat) (x:κ) (h:l[k]?=O x) (hall:∀ (j:Nat) (z:κ),j<k->l[j]?=O z->z≠x):iw l x=k:=by
 induction l generalizing k with
 | nil=>simp at h
 | cons a l ih =>
  cases k with
  | zero =>
   obtain rfl:a=x:=by simpa using h
   rw [iw,if_pos rfl]
   rfl
  | succ k =>
   have h2:=ih k (by simpa using h) fun j z hj hz=>hall (j+1) z (by omega) (by simpa using hz);rw [iw,if_neg (hall 0 a (by omega) rfl),h2,if_neg (by omega)];omega
theorem kF {κ:Type} [DecidableEq κ] (l:List κ) (x:κ):iw l x=-1\/∃ k:Nat,iw l x=k/\l[k]?=O x:=by
 induction l with
 | nil=>exact Or.inl rfl
 | cons a l ih =>
  rw [iw];by_cases h:a=x
  ·rw [if_pos h];exact Or.inr ⟨0,rfl,by rw [h]; rfl⟩
  ·rw [if_neg h];rcases ih with h2|⟨k,h2,h3⟩
   ·rw [if_pos h2];exact Or.inl rfl
   ·rw [if_neg (by omega),h2];exact Or.inr ⟨k+1,by omega,by simpa using h3⟩
abbrev Co (e:jl):Id×Id:=((e.1,e.2.1),(e.2.2.1,e.2.2.2.1))
end Bk
end Go.Proofs.YtghlpefopidlaaaGreat
