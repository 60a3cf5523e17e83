/-
  slices.Clone of rows. Conditions as told.
-/
import Derived.Laws.Cover3
import Derived.Test.YtkcfgbddlpomgaaGreatDQ011
set_option maxRecDepth 100000
set_option maxHeartbeats 64000000
open _root_.Bool renaming false->aN,true->bG
open _root_.Go renaming World->O,Value->aA,TypeId->aP,Calls->aQ,Addr->aR
open Go.Builtin renaming append_->aj
open Go.Ending renaming returned->U
open Go.IntKind renaming i64->au
open Go.Lib renaming hid->Z
open Go.Obj renaming cells->aD
open Go.Proofs.Tryz renaming prog->J,ntmps74->aS,ntmps84->aT,ntmps85->aU,ntmps86->aV,ntmps87->aW,ntmps66->aX,func74->aY,func84->aZ,func85->bf,func86->bg,func87->bn,func66->bD
open Go.Proofs.YtkcfgbddlpomgaaGreat.Rw renaming wpList_append_run->ah
open Go.RowKit.Below renaming refl->ay,heap_setCell->aG
open Go.Value renaming slice->D,int->ak,bool->aF,pointer->bE
open _root_.List renaming set_cons_succ->aB,getElem?_cons_zero->aH,getElem?_cons_succ->aI,cons_append->aJ,nil_append->aK,length_set->aL,getElem?_toArray->aM,length->bF
open _root_.Nat renaming le_refl->aC
open _root_.Option renaming none->L,some->V
open _root_.Or renaming inr->aO
namespace Go.Proofs.YtkcfgbddlpomgaaGreat
namespace Av
open Go.RowKit Rw YtkcfgbddlpomgaaGreat.Nm Pr Bk Rg
theorem QI (a:Option aR) (n c:Nat) (w:O):(binOp .eql 25 (D a n c) (D L 0 0)).run J w=.ok (aF a.isNone) w:=by
 simp [go_sem,binOp,run_equal_slice_nil (P:=J) w 25 3 a n c Tryz.underlying25]
theorem yP (v:Sl) (l:List Int) (w:O) (hv:Row EI w (dR v) l) (hl:l.length<=900) :
  aQ J 74 #[dR v] w fun e w'=>(∃ v':Sl,e=U (dR v')/\Own EI w' w.heap.size (dR v') l)/\Below w.heap.size w w':=by
 obtain⟨vo,vn,vc⟩:=v;rcases hv with⟨rfl,hv⟩|⟨a,cap,hv,h1,h2,h3⟩
 ·obtain⟨rfl,rfl,rfl⟩:vo=L/\vn=0/\vc=0:=by simpa using hv
  clear hv hl;have q:∀ w',(binOp .eql 25 (D L 0 0) (D L 0 0)).run J w'=.ok (aF bG) w':=fun w'=>QI L 0 0 w';go_enter aY,aS;go_wp2;go_ret;exact⟨⟨(L,0,0),rfl,fZ _ _⟩,ay _ _⟩
 ·obtain⟨rfl,rfl,rfl⟩:vo=V a/\vn=l.length/\vc=cap:=by simpa using hv
  have hx:Row EI w (D (V a) l.length vc) l:=aO ⟨a,vc,rfl,h1,h2,h3⟩;have n0:=fE w (aD #[] 3);obtain⟨q0,w0,r0,o0,g0⟩:=gy Nm.Jd w.heap.size (dL w #[] 3) (aC _) (hx.on n0) (by omega) 25;obtain⟨v1,v3,hv1⟩:=(Row.dx o0).len;obtain⟨n,hn⟩:∃ n,n=l.length:=⟨_,rfl⟩;have Q:=Z (show (∃ v':Sl,U q0=U (dR v')/\Own EI w0 w.heap.size (dR v') l)/\Below w.heap.size w w0 from ⟨⟨(v1,l.length,v3),by rw [hv1],by subst hv1; exact o0⟩,n0.trans (g0.mono n0.size)⟩);rw [<- hn] at r0 ⊢;clear hv h1 h2 h3 hx o0 g0 n0 hv1 hn hl;have q:∀ w',(binOp .eql 25 (D (V a) n vc) (D L 0 0)).run J w'=.ok (aF aN) w':=fun w'=>QI (V a) n vc w';have r0:(aj #[25,25] 25 #[D (V ⟨w.heap.size,0,L⟩) 0 0,D (V a) n vc]).run J (w.alloc (aD #[] 3))=.ok q0 w0:=r0;go_enter aY,aS;go_wp2_with (first | (at_builtin; refine ah rfl _ _ 25 rfl rfl rfl r0 ?_) | fail);go_ret;exact Q.out
theorem QJ (a:Option aR) (n c:Nat) (w:O):(binOp .eql 29 (D a n c) (D L 0 0)).run J w=.ok (aF a.isNone) w:=by
 simp [go_sem,binOp,run_equal_slice_nil (P:=J) w 29 38 a n c Tryz.underlying29]
theorem Ju (v:Sl) (l:List eO) (w:O) (hv:Row EJ w (dR v) l) (hl:l.length<=900) :
  aQ J 84 #[dR v] w fun e w'=>(∃ v':Sl,e=U (dR v')/\Own EJ w' w.heap.size (dR v') l)/\Below w.heap.size w w':=by
 obtain⟨vo,vn,vc⟩:=v;rcases hv with⟨rfl,hv⟩|⟨a,cap,hv,h1,h2,h3⟩
 ·obtain⟨rfl,rfl,rfl⟩:vo=L/\vn=0/\vc=0:=by simpa using hv
  clear hv hl;have q:∀ w',(binOp .eql 29 (D L 0 0) (D L 0 0)).run J w'=.ok (aF bG) w':=fun w'=>QJ L 0 0 w';go_enter aZ,aT;go_wp2;go_ret;exact⟨⟨(L,0,0),rfl,fZ _ _⟩,ay _ _⟩
 ·obtain⟨rfl,rfl,rfl⟩:vo=V a/\vn=l.length/\vc=cap:=by simpa using hv
  have hx:Row EJ w (D (V a) l.length vc) l:=aO ⟨a,vc,rfl,h1,h2,h3⟩;have n0:=fE w (aD #[] 38);obtain⟨q0,w0,r0,o0,g0⟩:=gy yD w.heap.size (dL w #[] 38) (aC _) (hx.on n0) (by omega) 29;obtain⟨v1,v3,hv1⟩:=(Row.dx o0).len;obtain⟨n,hn⟩:∃ n,n=l.length:=⟨_,rfl⟩;have Q:=Z (show (∃ v':Sl,U q0=U (dR v')/\Own EJ w0 w.heap.size (dR v') l)/\Below w.heap.size w w0 from ⟨⟨(v1,l.length,v3),by rw [hv1],by subst hv1; exact o0⟩,n0.trans (g0.mono n0.size)⟩);rw [<- hn] at r0 ⊢;clear hv h1 h2 h3 hx o0 g0 n0 hv1 hn hl;have q:∀ w',(binOp .eql 29 (D (V a) n vc) (D L 0 0)).run J w'=.ok (aF aN) w':=fun w'=>QJ (V a) n vc w';have r0:(aj #[29,29] 29 #[D (V ⟨w.heap.size,0,L⟩) 0 0,D (V a) n vc]).run J (w.alloc (aD #[] 38))=.ok q0 w0:=r0;go_enter aZ,aT;go_wp2_with (first | (at_builtin; refine ah rfl _ _ 29 rfl rfl rfl r0 ?_) | fail);go_ret;exact Q.out
theorem QK (a:Option aR) (n c:Nat) (w:O):(binOp .eql 28 (D a n c) (D L 0 0)).run J w=.ok (aF a.isNone) w:=by
 simp [go_sem,binOp,run_equal_slice_nil (P:=J) w 28 53 a n c Tryz.underlying28]
theorem Jv (v:Sl) (l:List jD) (w:O) (hv:Row ED w (dR v) l) (hl:l.length<=900) :
  aQ J 85 #[dR v] w fun e w'=>(∃ v':Sl,e=U (dR v')/\Own ED w' w.heap.size (dR v') l)/\Below w.heap.size w w':=by
 obtain⟨vo,vn,vc⟩:=v;rcases hv with⟨rfl,hv⟩|⟨a,cap,hv,h1,h2,h3⟩
 ·obtain⟨rfl,rfl,rfl⟩:vo=L/\vn=0/\vc=0:=by simpa using hv
  clear hv hl;have q:∀ w',(binOp .eql 28 (D L 0 0) (D L 0 0)).run J w'=.ok (aF bG) w':=fun w'=>QK L 0 0 w';go_enter bf,aU;go_wp2;go_ret;exact⟨⟨(L,0,0),rfl,fZ _ _⟩,ay _ _⟩
 ·obtain⟨rfl,rfl,rfl⟩:vo=V a/\vn=l.length/\vc=cap:=by simpa using hv
  have hx:Row ED w (D (V a) l.length vc) l:=aO ⟨a,vc,rfl,h1,h2,h3⟩;have n0:=fE w (aD #[] 53);obtain⟨q0,w0,r0,o0,g0⟩:=gy okD w.heap.size (dL w #[] 53) (aC _) (hx.on n0) (by omega) 28;obtain⟨v1,v3,hv1⟩:=(Row.dx o0).len;obtain⟨n,hn⟩:∃ n,n=l.length:=⟨_,rfl⟩;have Q:=Z (show (∃ v':Sl,U q0=U (dR v')/\Own ED w0 w.heap.size (dR v') l)/\Below w.heap.size w w0 from ⟨⟨(v1,l.length,v3),by rw [hv1],by subst hv1; exact o0⟩,n0.trans (g0.mono n0.size)⟩);rw [<- hn] at r0 ⊢;clear hv h1 h2 h3 hx o0 g0 n0 hv1 hn hl;have q:∀ w',(binOp .eql 28 (D (V a) n vc) (D L 0 0)).run J w'=.ok (aF aN) w':=fun w'=>QK (V a) n vc w';have r0:(aj #[28,28] 28 #[D (V ⟨w.heap.size,0,L⟩) 0 0,D (V a) n vc]).run J (w.alloc (aD #[] 53))=.ok q0 w0:=r0;go_enter bf,aU;go_wp2_with (first | (at_builtin; refine ah rfl _ _ 28 rfl rfl rfl r0 ?_) | fail);go_ret;exact Q.out
theorem QL (a:Option aR) (n c:Nat) (w:O):(binOp .eql 30 (D a n c) (D L 0 0)).run J w=.ok (aF a.isNone) w:=by
 simp [go_sem,binOp,run_equal_slice_nil (P:=J) w 30 68 a n c Tryz.underlying30]
theorem Jw (v:Sl) (l:List iA) (w:O) (hv:Row EN w (dR v) l) (hl:l.length<=900) :
  aQ J 86 #[dR v] w fun e w'=>(∃ v':Sl,e=U (dR v')/\Own EN w' w.heap.size (dR v') l)/\Below w.heap.size w w':=by
 obtain⟨vo,vn,vc⟩:=v;rcases hv with⟨rfl,hv⟩|⟨a,cap,hv,h1,h2,h3⟩
 ·obtain⟨rfl,rfl,rfl⟩:vo=L/\vn=0/\vc=0:=by simpa using hv
  clear hv hl;have q:∀ w',(binOp .eql 30 (D L 0 0) (D L 0 0)).run J w'=.ok (aF bG) w':=fun w'=>QL L 0 0 w';go_enter bg,aV;go_wp2;go_ret;exact⟨⟨(L,0,0),rfl,fZ _ _⟩,ay _ _⟩
 ·obtain⟨rfl,rfl,rfl⟩:vo=V a/\vn=l.length/\vc=cap:=by simpa using hv
  have hx:Row EN w (D (V a) l.length vc) l:=aO ⟨a,vc,rfl,h1,h2,h3⟩;have n0:=fE w (aD #[] 68);obtain⟨q0,w0,r0,o0,g0⟩:=gy mY w.heap.size (dL w #[] 68) (aC _) (hx.on n0) (by omega) 30;obtain⟨v1,v3,hv1⟩:=(Row.dx o0).len;obtain⟨n,hn⟩:∃ n,n=l.length:=⟨_,rfl⟩;have Q:=Z (show (∃ v':Sl,U q0=U (dR v')/\Own EN w0 w.heap.size (dR v') l)/\Below w.heap.size w w0 from ⟨⟨(v1,l.length,v3),by rw [hv1],by subst hv1; exact o0⟩,n0.trans (g0.mono n0.size)⟩);rw [<- hn] at r0 ⊢;clear hv h1 h2 h3 hx o0 g0 n0 hv1 hn hl;have q:∀ w',(binOp .eql 30 (D (V a) n vc) (D L 0 0)).run J w'=.ok (aF aN) w':=fun w'=>QL (V a) n vc w';have r0:(aj #[30,30] 30 #[D (V ⟨w.heap.size,0,L⟩) 0 0,D (V a) n vc]).run J (w.alloc (aD #[] 68))=.ok q0 w0:=r0;go_enter bg,aV;go_wp2_with (first | (at_builtin; refine ah rfl _ _ 30 rfl rfl rfl r0 ?_) | fail);go_ret;exact Q.out
theorem QM (a:Option aR) (n c:Nat) (w:O):(binOp .eql 31 (D a n c) (D L 0 0)).run J w=.ok (aF a.isNone) w:=by
 simp [go_sem,binOp,run_equal_slice_nil (P:=J) w 31 61 a n c Tryz.underlying31]
theorem Jy (v:Sl) (l:List qM) (w:O) (hv:Row EW w (dR v) l) (hl:l.length<=900) :
  aQ J 87 #[dR v] w fun e w'=>(∃ v':Sl,e=U (dR v')/\Own EW w' w.heap.size (dR v') l)/\Below w.heap.size w w':=by
 obtain⟨vo,vn,vc⟩:=v;rcases hv with⟨rfl,hv⟩|⟨a,cap,hv,h1,h2,h3⟩
 ·obtain⟨rfl,rfl,rfl⟩:vo=L/\vn=0/\vc=0:=by simpa using hv
  clear hv hl;have q:∀ w',(binOp .eql 31 (D L 0 0) (D L 0 0)).run J w'=.ok (aF bG) w':=fun w'=>QM L 0 0 w';go_enter bn,aW;go_wp2;go_ret;exact⟨⟨(L,0,0),rfl,fZ _ _⟩,ay _ _⟩
 ·obtain⟨rfl,rfl,rfl⟩:vo=V a/\vn=l.length/\vc=cap:=by simpa using hv
  have hx:Row EW w (D (V a) l.length vc) l:=aO ⟨a,vc,rfl,h1,h2,h3⟩;have n0:=fE w (aD #[] 61);obtain⟨q0,w0,r0,o0,g0⟩:=gy okW w.heap.size (dL w #[] 61) (aC _) (hx.on n0) (by omega) 31;obtain⟨v1,v3,hv1⟩:=(Row.dx o0).len;obtain⟨n,hn⟩:∃ n,n=l.length:=⟨_,rfl⟩;have Q:=Z (show (∃ v':Sl,U q0=U (dR v')/\Own EW w0 w.heap.size (dR v') l)/\Below w.heap.size w w0 from ⟨⟨(v1,l.length,v3),by rw [hv1],by subst hv1; exact o0⟩,n0.trans (g0.mono n0.size)⟩);rw [<- hn] at r0 ⊢;clear hv h1 h2 h3 hx o0 g0 n0 hv1 hn hl;have q:∀ w',(binOp .eql 31 (D (V a) n vc) (D L 0 0)).run J w'=.ok (aF aN) w':=fun w'=>QM (V a) n vc w';have r0:(aj #[31,31] 31 #[D (V ⟨w.heap.size,0,L⟩) 0 0,D (V a) n vc]).run J (w.alloc (aD #[] 61))=.ok q0 w0:=r0;go_enter bn,aW;go_wp2_with (first | (at_builtin; refine ah rfl _ _ 31 rfl rfl rfl r0 ?_) | fail);go_ret;exact Q.out
theorem Jz (a:Option aR) (n c:Nat) (w:O):(binOp .eql 41 (D a n c) (D L 0 0)).run J w=.ok (aF a.isNone) w:=by
 simp [go_sem,binOp,run_equal_slice_nil (P:=J) w 41 106 a n c Tryz.underlying41]
theorem qC (v:Sl) (l:List C5) (w:O) (hv:Row EC w (dR v) l) (hl:l.length<=900) :
  aQ J 66 #[dR v] w fun e w'=>(∃ v':Sl,e=U (dR v')/\Own EC w' w.heap.size (dR v') l)/\Below w.heap.size w w':=by
 obtain⟨vo,vn,vc⟩:=v;rcases hv with⟨rfl,hv⟩|⟨a,cap,hv,h1,h2,h3⟩
 ·obtain⟨rfl,rfl,rfl⟩:vo=L/\vn=0/\vc=0:=by simpa using hv
  clear hv hl;have q:∀ w',(binOp .eql 41 (D L 0 0) (D L 0 0)).run J w'=.ok (aF bG) w':=fun w'=>Jz L 0 0 w';go_enter bD,aX;go_wp2;go_ret;exact⟨⟨(L,0,0),rfl,fZ _ _⟩,ay _ _⟩
 ·obtain⟨rfl,rfl,rfl⟩:vo=V a/\vn=l.length/\vc=cap:=by simpa using hv
  have hx:Row EC w (D (V a) l.length vc) l:=aO ⟨a,vc,rfl,h1,h2,h3⟩;have n0:=fE w (aD #[] 106);obtain⟨q0,w0,r0,o0,g0⟩:=gy AO w.heap.size (dL w #[] 106) (aC _) (hx.on n0) (by omega) 41;obtain⟨v1,v3,hv1⟩:=(Row.dx o0).len;obtain⟨n,hn⟩:∃ n,n=l.length:=⟨_,rfl⟩;have Q:=Z (show (∃ v':Sl,U q0=U (dR v')/\Own EC w0 w.heap.size (dR v') l)/\Below w.heap.size w w0 from ⟨⟨(v1,l.length,v3),by rw [hv1],by subst hv1; exact o0⟩,n0.trans (g0.mono n0.size)⟩);rw [<- hn] at r0 ⊢;clear hv h1 h2 h3 hx o0 g0 n0 hv1 hn hl;have q:∀ w',(binOp .eql 41 (D (V a) n vc) (D L 0 0)).run J w'=.ok (aF aN) w':=fun w'=>Jz (V a) n vc w';have r0:(aj #[41,41] 41 #[D (V ⟨w.heap.size,0,L⟩) 0 0,D (V a) n vc]).run J (w.alloc (aD #[] 106))=.ok q0 w0:=r0;go_enter bD,aX;go_wp2_with (first | (at_builtin; refine ah rfl _ _ 41 rfl rfl rfl r0 ?_) | fail);go_ret;exact Q.out
end Av
namespace Av
open Go.RowKit Go.Sort Rw YtkcfgbddlpomgaaGreat.Nm Pr Bk
abbrev QN (W:O) (b:Nat) (a0 a1 a2 a3:aA):O:=(((W.setCell ⟨b,0,L⟩ a0).setCell ⟨b,1,L⟩ a1).setCell ⟨b,2,L⟩ a2).setCell ⟨b,3,L⟩ a3
theorem yQ {W:O} {b:Nat} {t:aP} {z0 z1 z2 z3:aA} (h:dJ W b #[z0,z1,z2,z3] t) (a0 a1 a2 a3:aA):dJ (QN W b a0 a1 a2 a3) b #[a0,a1,a2,a3] t:=by
 have h2:=dN (k:=3) (dN (k:=2) (dN (k:=1) (dN (k:=0) h a0) a1) a2) a3;simpa using h2
theorem ug {B:Nat} {W0 W:O} {b:Nat} (h:Below B W0 W) (hb:B<=b) (a0 a1 a2 a3:aA):Below B W0 (QN W b a0 a1 a2 a3) :=
 (((h.setCell (p:=⟨b,0,L⟩) hb a0).setCell (p:=⟨b,1,L⟩) hb a1).setCell (p:=⟨b,2,L⟩) hb a2).setCell (p:=⟨b,3,L⟩) hb a3
theorem Gi {α:Type} {E:Ek α} {W:O} {B:Nat} {v:aA} {l:List α} (h:Own E W B v l) (b:Nat) (hb:b<B) (a0 a1 a2 a3:aA):Own E (QN W b a0 a1 a2 a3) B v l :=
 dM (dM (dM (dM h b 0 a0 hb) b 1 a1 hb) b 2 a2 hb) b 3 a3 hb
theorem yR (x:jD) (p:List C5) (w:O) (hp:fK w (dR x.2.2.1) p) (hl:p.length<=900) :
  aQ J 42 #[lV x] w fun e w'=>(∃ v':Sl,e=U (lV (x.1,x.2.1,v',x.2.2.2))/\jP w' w.heap.size (dR v') p)/\Below w.heap.size w w':=by
 obtain⟨a,b,⟨s1,s2,s3⟩,q⟩:=x;obtain⟨h0,X,Y⟩:=gK w #[ak au a,ak au b,D s1 s2 s3,ak au q] #[ak au 0,ak au 0,D L 0 0,ak au 0] 53 53;have C:=Z (qC (s1,s2,s3) p _ (hp.on h0) hl);have B:=Z h0;have x2:=X.cell 2;simp only [aM,aH,aI] at x2;have X:=Z X;have Y:=Z Y;clear h0 hp hl;go_enter Tryz.func42,Tryz.ntmps42;go_wp2_with fail;generalize (w.alloc (aD #[ak au a,ak au b,D s1 s2 s3,ak au q] 53)).alloc (aD #[ak au 0,ak au 0,D L 0 0,ak au 0] 53)=W at *;refine C.out.mono ?_;rintro e w1 ⟨⟨⟨u1,u2,u3⟩,rfl,ho⟩,hb⟩;have X1:=X.out.on hb;have Y1:=Y.out.on hb;have hs:w.heap.size<W.heap.size:=X.out.lt;have O1:=Z (dM ho w.heap.size 2 (D u1 u2 u3) hs);have XB:=Z (show dJ _ _ #[ak au a,ak au b,D u1 u2 u3,ak au q] _ from by simpa using dN (k:=2) X1 (D u1 u2 u3));have YB:=Z (show dJ _ _ _ _ from (aG w1 ⟨w.heap.size,2,L⟩ (D u1 u2 u3) _ (show w.heap.size+1≠w.heap.size by omega)).trans Y1);have B1:=Z ((B.out.trans (hb.mono B.out.size)).setCell (p:=⟨w.heap.size,2,L⟩) (aC _) (D u1 u2 u3));have y2:=X1.cell 2;have f2:=X1.fr 2;have z2:=X1.lt;simp only [aM,aH,aI] at y2;clear X1 Y1 ho hb x2 C;go_upto_region 2 with fail;clear y2 f2 z2;generalize w1.setCell ⟨w.heap.size,2,L⟩ (D u1 u2 u3)=w2 at *;obtain⟨x0,x1,x2,x3⟩:=XB.out.I8;obtain⟨r0,r1,r2,r3⟩:=YB.out.I8;obtain⟨t0,t1,t2,t3⟩:=YB.out.fs4;have zz:=YB.out.lt;have hs2:w.heap.size+1<W.heap.size:=Y.out.lt;have FB:=Z (yQ YB.out (ak au a) (ak au b) (D u1 u2 u3) (ak au q));have BL:=Z (ug (b:=w.heap.size+1) B1.out (by omega) (ak au a) (ak au b) (D u1 u2 u3) (ak au q));have FO:=Z (Gi O1.out (w.heap.size+1) hs2 (ak au a) (ak au b) (D u1 u2 u3) (ak au q));have HS:=Z hs;clear hs hs2;go_wp2_with fail;obtain⟨v0,v1,v2,v3⟩:=FB.out.I8;refine bodyPost_ret (v:=.agg #[ak au a,ak au b,D u1 u2 u3,ak au q]) (by simp [results,Tryz.results42,go_sem,v0,v1,v2,v3]) rfl ?_;exact⟨⟨(u1,u2,u3),rfl,dG FO.out (Nat.le_of_lt HS.out)⟩,BL.out⟩
theorem jW {α:Type} {E:Ek α} (K:E.Ok) {W:O} {B g n cap k:Nat} {l:List α} {x:α} (h:Own E W B (D (V ⟨g,0,L⟩) n cap) l) (hk:l[k]?=V x):∀ w,Below W.heap.size W w->∀ j u,(E.cells x)[j]?=V u->w.cell? ((⟨g,k * E.n,L⟩:aR).add j)=V u:=by
 obtain⟨ao,c,hv⟩:=(Row.dx h).len;obtain⟨rfl,rfl,rfl⟩:V ⟨g,0,L⟩=ao/\n=l.length/\cap=c:=by simpa using hv
 obtain⟨p,h1,_,h2⟩:=mR K (Row.dx h) rfl rfl hk;have h3:=nI K g k l.length cap (List.getElem?_eq_some_iff.1 hk).1 W;rw [h1] at h3;injection h3 with h4 _
 injection h4 with h5
 injection h5 with h6
 subst h6;exact h2
theorem jS {α:Type} {E:Ek α} {W:O} {B g n cap:Nat} {l:List α} (h:Own E W B (D (V ⟨g,0,L⟩) n cap) l):∃ cur,dJ W g cur E.t:=by
 rcases iT h with⟨h1,_⟩|⟨g',c',cur,h1,_,h2,_⟩
 ·cases h1
 ·obtain⟨rfl,_⟩:g=g'/\True:=by simp at h1; exact⟨h1.1,trivial⟩
  exact⟨cur,h2⟩
theorem qD {W:O} {b g:Nat} {c d:Array aA} {s t:aP} (hb:dJ W b c s) (hg:dJ W g d t) (hne:(s == t)=aN):b≠g:=by
 rintro rfl;unfold dJ at hb hg;rw [hb] at hg;injection hg with h
 injection h with _ h2
 rw [h2] at hne;simp at hne
def But (g:Nat) (W x:O):Prop:=(∀ k,k<W.heap.size->k≠g->x.heap[k]?=W.heap[k]?)/\W.heap.size<=x.heap.size
theorem But.box {g b:Nat} {W x:O} {cs:Array aA} {t:aP} (h:But g W x) (hb:dJ W b cs t) (hne:b≠g):dJ x b cs t:=(h.1 b hb.lt hne).trans hb
theorem But.own {α:Type} {E:Ek α} {g:Nat} {W x:O} {B:Nat} {v:aA} {l:List α} {d:Array aA} {t:aP} (h:But g W x) (ho:Own E W B v l) (hg:dJ W g d t) (hne:(E.t == t)=aN):Own E x B v l:=by
 refine⟨ho.1,?_⟩;rcases ho.2 with h2|⟨g',cap,cur,h1,h2,h3,h4⟩
 ·exact Or.inl h2
 ·exact aO ⟨g',cap,cur,h1,h2,by rw [h.1 g' (lt_of_heap h3) (qD (show dJ W g' cur E.t from h3) hg hne)]; exact h3,h4⟩
theorem Ch:∀ (l:List jD) (k:Nat) (x:jD),k<l.length->flat ED (l.set k x)=((((flat ED l).set (k * 4) (ak au x.1)).set (k * 4+1) (ak au x.2.1)).set (k * 4+2) (dR x.2.2.1)).set (k * 4+3) (ak au x.2.2.2)
 | [],k,x,h=>by simp at h
 | y::r,0,x,_=>rfl
 | y::r,k+1,x,h=>by
  have ih:=Ch r k x (by simpa using h);rw [show (k+1) * 4+3=(k * 4+3)+1+1+1+1 by omega,show (k+1) * 4+2=(k * 4+2)+1+1+1+1 by omega,show (k+1) * 4+1=(k * 4+1)+1+1+1+1 by omega,show (k+1) * 4=(k * 4)+1+1+1+1 by omega];simp only [aB,flat,ED,cellsD,aJ,aK] at ih ⊢;rw [ih]
theorem Ci:∀ (l:List iA) (k:Nat) (x:iA) (s:Sl),l[k]?=V x->flat EN (l.set k (x.1,x.2.1,x.2.2.1,x.2.2.2.1,s,x.2.2.2.2.2.1,x.2.2.2.2.2.2))=(flat EN l).set (k * 7+4) (dR s)
 | [],k,x,s,h=>by simp at h
 | y::r,0,x,s,h=>by
  obtain rfl:y=x:=by simpa using h
  rfl
 | y::r,k+1,x,s,h=>by
  have ih:=Ci r k x s (by simpa using h);rw [show (k+1) * 7+4=(k * 7+4)+1+1+1+1+1+1+1 by omega];simp only [aB,flat,EN,iG,aJ,aK] at ih ⊢;rw [ih]
theorem Cj:∀ (l:List qM) (k:Nat) (x:qM) (s:Sl),l[k]?=V x->flat EW (l.set k (x.1,x.2.1,s))=(flat EW l).set (k * 3+2) (dR s)
 | [],k,x,s,h=>by simp at h
 | y::r,0,x,s,h=>by
  obtain rfl:y=x:=by simpa using h
  rfl
 | y::r,k+1,x,s,h=>by
  have ih:=Cj r k x s (by simpa using h);rw [show (k+1) * 3+2=(k * 3+2)+1+1+1 by omega];simp only [aB,flat,EW,tZ,aJ,aK] at ih ⊢;rw [ih]
def aaS {α:Type} (E:Ek α) (B g:Nat) (v:aA) (l:List α) (w w':O):Prop:=Own E w' B v l/\But g w w'/\(∀ B' W,B'<=g->Below B' W w->Below B' W w')
theorem dQ (w:O) (g j:Nat) (u:aA):But g w (w.setCell ⟨g,j,L⟩ u):=⟨fun k _ hk=>aG w ⟨g,j,L⟩ u k hk,by simp⟩
theorem But.trans {g:Nat} {a b c:O} (h1:But g a b) (h2:But g b c):But g a c:=⟨fun k hk hne=>(h2.1 k (Nat.lt_of_lt_of_le hk h1.2) hne).trans (h1.1 k hk hne),Nat.le_trans h1.2 h2.2⟩
theorem But.of_below {g:Nat} {a b:O} (h:Below a.heap.size a b):But g a b:=⟨fun k hk _=>h.block k hk,h.size⟩
theorem aaT {w:O} {B g n cap k:Nat} {l:List jD} (x:jD) (h:kQ w B (D (V ⟨g,0,L⟩) n cap) l) (hk:k<l.length) :
  ∃ w',(Instr.storeAt 53 (bE (V ⟨g,k * 4,L⟩)) (lV x)).run J w=.ok () w'/\aaS ED B g (D (V ⟨g,0,L⟩) n cap) (l.set k x) w w':=by
 obtain⟨y,hy⟩:∃ y,l[k]?=V y:=⟨_,List.getElem?_eq_getElem hk⟩;have c:=jW okD h hy w (ay _ _);have c0:=c 0 _ rfl;have c1:=c 1 _ rfl;have c2:=c 2 _ rfl;have c3:=c 3 _ rfl;simp [Addr.add,ED] at c0 c1 c2 c3;obtain⟨cur,hb⟩:=jS h;have f:=fun j=>hb.fr j;obtain⟨ao,c',hv⟩:=(Row.dx h).len;obtain⟨_,rfl,_⟩:V ⟨g,0,L⟩=ao/\n=l.length/\cap=c':=by simpa using hv
 have h:w.ownsRow B 53 4 (D (V ⟨g,0,L⟩) l.length cap) l.length (flat ED l):=h;have s1:=(h.stored (k * 4) (ak au x.1)).1;have s2:=(s1.stored (k * 4+1) (ak au x.2.1)).1;have s3:=(s2.stored (k * 4+2) (dR x.2.2.1)).1;have s4:=(s3.stored (k * 4+3) (ak au x.2.2.2)).1;refine⟨(((w.setCell ⟨g,k * 4,L⟩ (ak au x.1)).setCell ⟨g,k * 4+1,L⟩ (ak au x.2.1)).setCell ⟨g,k * 4+2,L⟩ (dR x.2.2.1)).setCell ⟨g,k * 4+3,L⟩ (ak au x.2.2.2),?_,?_,((dQ _ g _ _).trans (dQ _ g _ _)).trans ((dQ _ g _ _).trans (dQ _ g _ _)),fun B' W hB hb=>(((hb.setCell (p:=⟨g,_,L⟩) hB _).setCell (p:=⟨g,_,L⟩) hB _).setCell (p:=⟨g,_,L⟩) hB _).setCell (p:=⟨g,_,L⟩) hB _⟩
 ·simp [go_sem,c0,c1,c2,c3,f]
 ·have e:=Ch l k x hk;show World.ownsRow _ B 53 4 _ (l.set k x).length (flat ED (l.set k x));rw [e,aL];exact s4
theorem aaU {w:O} {B g n cap k:Nat} {l:List iA} {x:iA} (s1:Option aR) (s2 s3:Nat) (h:jg w B (D (V ⟨g,0,L⟩) n cap) l) (hk:l[k]?=V x) :
  ∃ w',(Instr.storeAt 41 (bE (V ⟨g,k * 7+4,L⟩)) (D s1 s2 s3)).run J w=.ok () w'/\aaS EN B g (D (V ⟨g,0,L⟩) n cap) (l.set k (x.1,x.2.1,x.2.2.1,x.2.2.2.1,(s1,s2,s3),x.2.2.2.2.2.1,x.2.2.2.2.2.2)) w w':=by
 have c:=jW mY h hk w (ay _ _);have c4:=c 4 _ rfl;simp [Addr.add,EN] at c4;obtain⟨cur,hb⟩:=jS h;have f:=hb.fr (k * 7+4);obtain⟨ao,c',hv⟩:=(Row.dx h).len;obtain⟨_,rfl,_⟩:V ⟨g,0,L⟩=ao/\n=l.length/\cap=c':=by simpa using hv
 have h:w.ownsRow B 68 7 (D (V ⟨g,0,L⟩) l.length cap) l.length (flat EN l):=h;have t1:=(h.stored (k * 7+4) (D s1 s2 s3)).1;refine⟨w.setCell ⟨g,k * 7+4,L⟩ (D s1 s2 s3),by simp [go_sem,c4,f],?_,dQ _ g _ _,fun B' W hB hb=>hb.setCell (p:=⟨g,_,L⟩) hB _⟩;have e:=Ci l k x (s1,s2,s3) hk;show World.ownsRow _ B 68 7 _ (bF _) (flat EN _);rw [e,aL];exact t1
theorem aaV {w:O} {B g n cap k:Nat} {l:List qM} {x:qM} (s1:Option aR) (s2 s3:Nat) (h:oN w B (D (V ⟨g,0,L⟩) n cap) l) (hk:l[k]?=V x) :
  ∃ w',(Instr.storeAt 41 (bE (V ⟨g,k * 3+2,L⟩)) (D s1 s2 s3)).run J w=.ok () w'/\aaS EW B g (D (V ⟨g,0,L⟩) n cap) (l.set k (x.1,x.2.1,(s1,s2,s3))) w w':=by
 have c:=jW okW h hk w (ay _ _);have c2:=c 2 _ rfl;simp [Addr.add,EW] at c2;obtain⟨cur,hb⟩:=jS h;have f:=hb.fr (k * 3+2);obtain⟨ao,c',hv⟩:=(Row.dx h).len;obtain⟨_,rfl,_⟩:V ⟨g,0,L⟩=ao/\n=l.length/\cap=c':=by simpa using hv
 have h:w.ownsRow B 61 3 (D (V ⟨g,0,L⟩) l.length cap) l.length (flat EW l):=h;have t1:=(h.stored (k * 3+2) (D s1 s2 s3)).1;refine⟨w.setCell ⟨g,k * 3+2,L⟩ (D s1 s2 s3),by simp [go_sem,c2,f],?_,dQ _ g _ _,fun B' W hB hb=>hb.setCell (p:=⟨g,_,L⟩) hB _⟩;have e:=Cj l k x (s1,s2,s3) hk;show World.ownsRow _ B 61 3 _ (bF _) (flat EW _);rw [e,aL];exact t1
theorem eB.set {α β:Type} {R:α->β->Prop}:∀ {l:List α} {m:List β} (k:Nat) (a:α) (b:β),eB R l m->m[k]?=V b->R a b->eB R (l.set k a) m
 | _,_,_,_,_,.nil,h,_=>by simp at h
 | _,_,0,a,b,.cons x t,h,hr=>by
  simp at h;subst h;exact .cons hr t
 | _,_,k+1,a,b,.cons x t,h,hr=>.cons x (eB.set k a b t (by simpa using h) hr)
def PM (w0:O) (B:Nat) (wr:O) (v:aA) (p:List C5):Prop:=fK w0 v p\/jP wr B v p
def I9 (w0:O) (B:Nat) (wr:O) (x:jD) (a:Ad):Prop:=(x.1,x.2.1)=a.id/\x.2.2.2=a.par/\PM w0 B wr (dR x.2.2.1) a.p
def Az (w0:O) (B:Nat) (wr:O) (x:iA) (a:En):Prop:=(x.1,x.2.1)=a.tree/\(x.2.2.1,x.2.2.2.1)=a.sub/\x.2.2.2.2.2.1=a.from_/\x.2.2.2.2.2.2=a.up/\PM w0 B wr (dR x.2.2.2.2.1) a.p
def Kz (w0:O) (B:Nat) (wr:O) (x:qM) (a:Ow):Prop:=(x.1,x.2.1)=a.id/\PM w0 B wr (dR x.2.2) a.p
theorem PM.grow {w0 wr x:O} {B:Nat} {v:aA} {p:List C5} (h:PM w0 B wr v p) (hb:Below wr.heap.size wr x):PM w0 B x v p:=h.imp id fun h=>Bk.dB h hb
theorem PM.but {w0 wr x:O} {B:Nat} {v:aA} {p:List C5} {g:Nat} {d:Array aA} {t:aP} (h:PM w0 B wr v p) (hb:But g wr x) (hg:dJ wr g d t) (hne:(106 == t)=aN):PM w0 B x v p:=h.imp id fun h=>hb.own h hg hne
theorem PM.row {w0 wr:O} {B:Nat} {v:aA} {p:List C5} (h:PM w0 B wr v p) (hb:Below w0.heap.size w0 wr):fK wr v p:=h.elim (fun h=>h.on hb) Row.dx
theorem I9.grow {w0 wr x:O} {B:Nat} {y:jD} {a:Ad} (h:I9 w0 B wr y a) (hb:Below wr.heap.size wr x):I9 w0 B x y a:=⟨h.1,h.2.1,h.2.2.grow hb⟩
theorem Az.grow {w0 wr x:O} {B:Nat} {y:iA} {a:En} (h:Az w0 B wr y a) (hb:Below wr.heap.size wr x):Az w0 B x y a:=⟨h.1,h.2.1,h.2.2.1,h.2.2.2.1,h.2.2.2.2.grow hb⟩
theorem Kz.grow {w0 wr x:O} {B:Nat} {y:qM} {a:Ow} (h:Kz w0 B wr y a) (hb:Below wr.heap.size wr x):Kz w0 B x y a:=⟨h.1,h.2.grow hb⟩
theorem I9.but {w0 wr x:O} {B:Nat} {y:jD} {a:Ad} {g:Nat} {d:Array aA} {t:aP} (h:I9 w0 B wr y a) (hb:But g wr x) (hg:dJ wr g d t) (hne:(106 == t)=aN):I9 w0 B x y a:=⟨h.1,h.2.1,h.2.2.but hb hg hne⟩
theorem Az.but {w0 wr x:O} {B:Nat} {y:iA} {a:En} {g:Nat} {d:Array aA} {t:aP} (h:Az w0 B wr y a) (hb:But g wr x) (hg:dJ wr g d t) (hne:(106 == t)=aN):Az w0 B x y a:=⟨h.1,h.2.1,h.2.2.1,h.2.2.2.1,h.2.2.2.2.but hb hg hne⟩
theorem Kz.but {w0 wr x:O} {B:Nat} {y:qM} {a:Ow} {g:Nat} {d:Array aA} {t:aP} (h:Kz w0 B wr y a) (hb:But g wr x) (hg:dJ wr g d t) (hne:(106 == t)=aN):Kz w0 B x y a:=⟨h.1,h.2.but hb hg hne⟩
def vw (w:O):O:={ w with heap:=#[] }
theorem Ww (w:O) (a:aR):(vw w).cell? a=L:=by
 unfold World.cell? vw;simp
theorem JA {α:Type} {E:Ek α} {w x:O} {v:aA} {l:List α} (h:Row E (vw w) v l):Row E x v l:=by
 rcases h with h|⟨a,cap,h1,h2,h3,h4⟩
 ·exact Or.inl h
 ·refine aO ⟨a,cap,h1,h2,h3,fun j u hj=>?_⟩;have h5:=h4 j u hj;rw [Ww] at h5;cases h5
theorem tJ {α:Type}:∀ (l:List α) (k:Nat) (x:α),k<l.length->(l.set k x).take (k+1)=l.take k++[x]
 | [],k,x,h=>absurd h (Nat.not_lt_zero k)
 | _::_,0,_,_=>rfl
 | a::l,k+1,x,h=>by
  rw [aB,List.take_succ_cons,tJ l k x (by simpa using h)]
  rfl
theorem wu {α β:Type} {R:α->β->Prop} {l:List α} {m:List β} {k:Nat} {x:α} {y:β} (h:eB R (l.take k) (m.take k)) (hk:k<l.length) (hy:m[k]?=V y) (hx:R x y):eB R ((l.set k x).take (k+1)) (m.take (k+1)):=by
 rw [tJ l k x hk,List.take_add_one,hy];exact h.append (.cons hx .nil)
structure Cp (w0:O) (B:Nat) (wr:O) (b:Br) (nv av sv ev ov:Sl):Prop where
 near:lU wr B (dR nv) b.near
 seen:qB wr B (dR sv) b.seen
 dO:∃ l,kQ wr B (dR av) l/\eB (I9 w0 B wr) l b.dO
 ent:∃ l,jg wr B (dR ev) l/\eB (Az w0 B wr) l b.ent
 own:∃ l,oN wr B (dR ov) l/\eB (Kz w0 B wr) l b.own
theorem Cp.grow {w0 wr x:O} {B:Nat} {b:Br} {nv av sv ev ov:Sl} (h:Cp w0 B wr b nv av sv ev ov) (hb:Below wr.heap.size wr x):Cp w0 B x b nv av sv ev ov where
 near:=Bk.dB h.near hb
 seen:=Bk.dB h.seen hb
 dO:=by obtain⟨l,h1,h2⟩:=h.dO; exact⟨l,Bk.dB h1 hb,h2.mono fun _ _ h=>h.grow hb⟩
 ent:=by obtain⟨l,h1,h2⟩:=h.ent; exact⟨l,Bk.dB h1 hb,h2.mono fun _ _ h=>h.grow hb⟩
 own:=by obtain⟨l,h1,h2⟩:=h.own; exact⟨l,Bk.dB h1 hb,h2.mono fun _ _ h=>h.grow hb⟩
theorem Cp.but {w0 wr x:O} {B:Nat} {b:Br} {nv av sv ev ov:Sl} (h:Cp w0 B wr b nv av sv ev ov) {g:Nat} {d:Array aA} (hb:But g wr x) (hg:dJ wr g d 33):Cp w0 B x b nv av sv ev ov where
 near:=hb.own h.near hg (by decide)
 seen:=hb.own h.seen hg (by decide)
 dO:=by obtain⟨l,h1,h2⟩:=h.dO; exact⟨l,hb.own h1 hg (by decide),h2.mono fun _ _ h=>h.but hb hg (by decide)⟩
 ent:=by obtain⟨l,h1,h2⟩:=h.ent; exact⟨l,hb.own h1 hg (by decide),h2.mono fun _ _ h=>h.but hb hg (by decide)⟩
 own:=by obtain⟨l,h1,h2⟩:=h.own; exact⟨l,hb.own h1 hg (by decide),h2.mono fun _ _ h=>h.but hb hg (by decide)⟩
structure Cs (w0 w wr:O) (b:Br) (kd kn kw:Nat) (nv av sv ev ov:Sl):Prop where
 tC:Below w.heap.size w wr
 bx:dJ wr w.heap.size #[ak au b.me,dR nv,dR av,dR sv,dR ev,dR ov] 33
 bz:dJ wr (w.heap.size+1) #[ak au 0,D L 0 0,D L 0 0,D L 0 0,D L 0 0,D L 0 0] 33
 near:lU wr w.heap.size (dR nv) b.near
 seen:qB wr w.heap.size (dR sv) b.seen
 dO:∃ l,kQ wr w.heap.size (dR av) l/\eB (I9 w0 w.heap.size wr) l b.dO/\eB (I9 (vw w0) w.heap.size wr) (l.take kd) (b.dO.take kd)
 ent:∃ l,jg wr w.heap.size (dR ev) l/\eB (Az w0 w.heap.size wr) l b.ent/\eB (Az (vw w0) w.heap.size wr) (l.take kn) (b.ent.take kn)
 own:∃ l,oN wr w.heap.size (dR ov) l/\eB (Kz w0 w.heap.size wr) l b.own/\eB (Kz (vw w0) w.heap.size wr) (l.take kw) (b.own.take kw)
theorem Cs.QN {w0 w wr x:O} {b:Br} {kd kn kw kd':Nat} {nv sv ev ov:Sl} {g n cap:Nat} {l l':List jD} (h:Cs w0 w wr b kd kn kw nv (V ⟨g,0,L⟩,n,cap) sv ev ov) (ho:kQ wr w.heap.size (D (V ⟨g,0,L⟩) n cap) l) (hx:kQ x w.heap.size (D (V ⟨g,0,L⟩) n cap) l') (hb:But g wr x) (hw:Below w.heap.size w x) (hA:eB (I9 w0 w.heap.size x) l' b.dO) (hV:eB (I9 (vw w0) w.heap.size x) (l'.take kd') (b.dO.take kd')):Cs w0 w x b kd' kn kw nv (V ⟨g,0,L⟩,n,cap) sv ev ov:=by
 obtain⟨cur,hg⟩:=jS ho;exact {
  tC:=hw
  bx:=hb.box h.bx (qD h.bx hg (by decide))
  bz:=hb.box h.bz (qD h.bz hg (by decide))
  near:=hb.own h.near hg (by decide)
  seen:=hb.own h.seen hg (by decide)
  dO:=⟨l',hx,hA,hV⟩
  ent:=by obtain⟨l,h1,h2,h3⟩:=h.ent; exact⟨l,hb.own h1 hg (by decide),h2.mono fun _ _ h=>h.but hb hg (by decide),h3.mono fun _ _ h=>h.but hb hg (by decide)⟩
  own:=by obtain⟨l,h1,h2,h3⟩:=h.own; exact⟨l,hb.own h1 hg (by decide),h2.mono fun _ _ h=>h.but hb hg (by decide),h3.mono fun _ _ h=>h.but hb hg (by decide)⟩ }
theorem Cs.afH {w0 w wr x:O} {b:Br} {kd kn kw kn':Nat} {nv av sv ov:Sl} {g n cap:Nat} {l l':List iA} (h:Cs w0 w wr b kd kn kw nv av sv (V ⟨g,0,L⟩,n,cap) ov) (ho:jg wr w.heap.size (D (V ⟨g,0,L⟩) n cap) l) (hx:jg x w.heap.size (D (V ⟨g,0,L⟩) n cap) l') (hb:But g wr x) (hw:Below w.heap.size w x) (hA:eB (Az w0 w.heap.size x) l' b.ent) (hV:eB (Az (vw w0) w.heap.size x) (l'.take kn') (b.ent.take kn')):Cs w0 w x b kd kn' kw nv av sv (V ⟨g,0,L⟩,n,cap) ov:=by
 obtain⟨cur,hg⟩:=jS ho;exact {
  tC:=hw
  bx:=hb.box h.bx (qD h.bx hg (by decide))
  bz:=hb.box h.bz (qD h.bz hg (by decide))
  near:=hb.own h.near hg (by decide)
  seen:=hb.own h.seen hg (by decide)
  dO:=by obtain⟨l,h1,h2,h3⟩:=h.dO; exact⟨l,hb.own h1 hg (by decide),h2.mono fun _ _ h=>h.but hb hg (by decide),h3.mono fun _ _ h=>h.but hb hg (by decide)⟩
  ent:=⟨l',hx,hA,hV⟩
  own:=by obtain⟨l,h1,h2,h3⟩:=h.own; exact⟨l,hb.own h1 hg (by decide),h2.mono fun _ _ h=>h.but hb hg (by decide),h3.mono fun _ _ h=>h.but hb hg (by decide)⟩ }
theorem Cs.setW {w0 w wr x:O} {b:Br} {kd kn kw kw':Nat} {nv av sv ev:Sl} {g n cap:Nat} {l l':List qM} (h:Cs w0 w wr b kd kn kw nv av sv ev (V ⟨g,0,L⟩,n,cap)) (ho:oN wr w.heap.size (D (V ⟨g,0,L⟩) n cap) l) (hx:oN x w.heap.size (D (V ⟨g,0,L⟩) n cap) l') (hb:But g wr x) (hw:Below w.heap.size w x) (hA:eB (Kz w0 w.heap.size x) l' b.own) (hV:eB (Kz (vw w0) w.heap.size x) (l'.take kw') (b.own.take kw')):Cs w0 w x b kd kn kw' nv av sv ev (V ⟨g,0,L⟩,n,cap):=by
 obtain⟨cur,hg⟩:=jS ho;exact {
  tC:=hw
  bx:=hb.box h.bx (qD h.bx hg (by decide))
  bz:=hb.box h.bz (qD h.bz hg (by decide))
  near:=hb.own h.near hg (by decide)
  seen:=hb.own h.seen hg (by decide)
  dO:=by obtain⟨l,h1,h2,h3⟩:=h.dO; exact⟨l,hb.own h1 hg (by decide),h2.mono fun _ _ h=>h.but hb hg (by decide),h3.mono fun _ _ h=>h.but hb hg (by decide)⟩
  ent:=by obtain⟨l,h1,h2,h3⟩:=h.ent; exact⟨l,hb.own h1 hg (by decide),h2.mono fun _ _ h=>h.but hb hg (by decide),h3.mono fun _ _ h=>h.but hb hg (by decide)⟩
  own:=⟨l',hx,hA,hV⟩ }
end Av
namespace Rl
open Go.RowKit Pu Pr
end Rl
namespace Rg
open Go.RowKit
end Rg
end Go.Proofs.YtkcfgbddlpomgaaGreat
