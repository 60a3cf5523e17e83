/-
  slices.Clone of rows. Conditions as told.
-/
import Derived.Test.YtmklifheakemeaaOQ008
import Derived.Laws.Cover3
set_option maxRecDepth 100000
set_option maxHeartbeats 64000000
open _root_.Bool renaming and_eq_true->aA,false->aC,true->aG
open _root_.Go renaming World->au,Calls->aF,Addr->aX
open Go.Builtin renaming append_->V
open Go.Ending renaming returned->K
open Go.Lib renaming hid->L
open Go.Obj renaming cells->ah
open Go.Proofs.Try renaming prog->D,ntmps25->aI,ntmps44->aJ,ntmps45->aK,ntmps46->aL,ntmps47->aM,ntmps48->aN,ntmps17->aP,func25->aQ,func44->aR,func45->aS,func46->aT,func47->aU,func48->aV,func17->aW
open Go.RowKit renaming Below->ak
open Go.RowKit.Below renaming refl->X
open Go.Value renaming slice->J,bool->Z,int->aD
open _root_.List renaming getElem?_eq_getElem->Y,getElem?_eq_some_iff->ay
open _root_.Nat renaming le_refl->aj,lt_or_ge->aH,zero_le->aO
open _root_.Option renaming some->O,none->U
open Option.some renaming inj->aB
namespace Go.Proofs.Ytmklifheakemeaa
namespace Av
open Go.RowKit Rw Ytmklifheakemeaa.Nm Pr Bk Rg
theorem AA (a:Option aX) (n c:Nat) (w:au):(binOp .eql 23 (J a n c) (J U 0 0)).run D w=.ok (Z a.isNone) w:=by
 simp [go_sem,binOp,run_equal_slice_nil (P:=D) w 23 3 a n c Try.underlying23]
theorem oW (v:Sl) (l:List Int) (w:au) (hv:Row EI w (dO v) l) (hl:l.length<=900) :
  aF D 25 #[dO v] w fun e w'=>(∃ v':Sl,e=K (dO v')/\Own EI w' w.heap.size (dO v') l)/\ak w.heap.size w w':=by
 obtain⟨vo,vn,vc⟩:=v;rcases hv with⟨rfl,hv⟩|⟨a,cap,hv,h1,h2,h3⟩
 ·obtain⟨rfl,rfl,rfl⟩:vo=U/\vn=0/\vc=0:=by simpa using hv
  clear hv hl;have q:∀ w',(binOp .eql 23 (J U 0 0) (J U 0 0)).run D w'=.ok (Z aG) w':=fun w'=>AA U 0 0 w';go_enter aQ,aI;go_wp2;go_ret;exact⟨⟨(U,0,0),rfl,gX _ _⟩,X _ _⟩
 ·obtain⟨rfl,rfl,rfl⟩:vo=O a/\vn=l.length/\vc=cap:=by simpa using hv
  have hx:Row EI w (J (O a) l.length vc) l:=Or.inr ⟨a,vc,rfl,h1,h2,h3⟩;have n0:=gK w (ah #[] 3);obtain⟨q0,w0,r0,o0,g0⟩:=iH Nm.Ez w.heap.size (dI w #[] 3) (aj _) (hx.on n0) (by omega) 23;obtain⟨v1,v3,hv1⟩:=(Row.dG o0).len;obtain⟨n,hn⟩:∃ n,n=l.length:=⟨_,rfl⟩;have Q:=L (show (∃ v':Sl,K q0=K (dO v')/\Own EI w0 w.heap.size (dO v') l)/\ak w.heap.size w w0 from ⟨⟨(v1,l.length,v3),by rw [hv1],by subst hv1; exact o0⟩,n0.trans (g0.mono n0.size)⟩);rw [<- hn] at r0 ⊢;clear hv h1 h2 h3 hx o0 g0 n0 hv1 hn hl;have q:∀ w',(binOp .eql 23 (J (O a) n vc) (J U 0 0)).run D w'=.ok (Z aC) w':=fun w'=>AA (O a) n vc w';have r0:(V #[23,23] 23 #[J (O ⟨w.heap.size,0,U⟩) 0 0,J (O a) n vc]).run D (w.alloc (ah #[] 3))=.ok q0 w0:=r0;go_enter aQ,aI;go_wp2_with (first | (at_builtin; refine wpList_append_run rfl _ _ 23 rfl rfl rfl r0 ?_) | fail);go_ret;exact Q.out
theorem AJ (a:Option aX) (n c:Nat) (w:au):(binOp .eql 27 (J a n c) (J U 0 0)).run D w=.ok (Z a.isNone) w:=by
 simp [go_sem,binOp,run_equal_slice_nil (P:=D) w 27 25 a n c Try.underlying27]
theorem vZ (v:Sl) (l:List dW) (w:au) (hv:Row EJ w (dO v) l) (hl:l.length<=900) :
  aF D 44 #[dO v] w fun e w'=>(∃ v':Sl,e=K (dO v')/\Own EJ w' w.heap.size (dO v') l)/\ak w.heap.size w w':=by
 obtain⟨vo,vn,vc⟩:=v;rcases hv with⟨rfl,hv⟩|⟨a,cap,hv,h1,h2,h3⟩
 ·obtain⟨rfl,rfl,rfl⟩:vo=U/\vn=0/\vc=0:=by simpa using hv
  clear hv hl;have q:∀ w',(binOp .eql 27 (J U 0 0) (J U 0 0)).run D w'=.ok (Z aG) w':=fun w'=>AJ U 0 0 w';go_enter aR,aJ;go_wp2;go_ret;exact⟨⟨(U,0,0),rfl,gX _ _⟩,X _ _⟩
 ·obtain⟨rfl,rfl,rfl⟩:vo=O a/\vn=l.length/\vc=cap:=by simpa using hv
  have hx:Row EJ w (J (O a) l.length vc) l:=Or.inr ⟨a,vc,rfl,h1,h2,h3⟩;have n0:=gK w (ah #[] 25);obtain⟨q0,w0,r0,o0,g0⟩:=iH vM w.heap.size (dI w #[] 25) (aj _) (hx.on n0) (by omega) 27;obtain⟨v1,v3,hv1⟩:=(Row.dG o0).len;obtain⟨n,hn⟩:∃ n,n=l.length:=⟨_,rfl⟩;have Q:=L (show (∃ v':Sl,K q0=K (dO v')/\Own EJ w0 w.heap.size (dO v') l)/\ak w.heap.size w w0 from ⟨⟨(v1,l.length,v3),by rw [hv1],by subst hv1; exact o0⟩,n0.trans (g0.mono n0.size)⟩);rw [<- hn] at r0 ⊢;clear hv h1 h2 h3 hx o0 g0 n0 hv1 hn hl;have q:∀ w',(binOp .eql 27 (J (O a) n vc) (J U 0 0)).run D w'=.ok (Z aC) w':=fun w'=>AJ (O a) n vc w';have r0:(V #[27,27] 27 #[J (O ⟨w.heap.size,0,U⟩) 0 0,J (O a) n vc]).run D (w.alloc (ah #[] 25))=.ok q0 w0:=r0;go_enter aR,aJ;go_wp2_with (first | (at_builtin; refine wpList_append_run rfl _ _ 27 rfl rfl rfl r0 ?_) | fail);go_ret;exact Q.out
theorem AO (a:Option aX) (n c:Nat) (w:au):(binOp .eql 26 (J a n c) (J U 0 0)).run D w=.ok (Z a.isNone) w:=by
 simp [go_sem,binOp,run_equal_slice_nil (P:=D) w 26 37 a n c Try.underlying26]
theorem wm (v:Sl) (l:List iN) (w:au) (hv:Row ED w (dO v) l) (hl:l.length<=900) :
  aF D 45 #[dO v] w fun e w'=>(∃ v':Sl,e=K (dO v')/\Own ED w' w.heap.size (dO v') l)/\ak w.heap.size w w':=by
 obtain⟨vo,vn,vc⟩:=v;rcases hv with⟨rfl,hv⟩|⟨a,cap,hv,h1,h2,h3⟩
 ·obtain⟨rfl,rfl,rfl⟩:vo=U/\vn=0/\vc=0:=by simpa using hv
  clear hv hl;have q:∀ w',(binOp .eql 26 (J U 0 0) (J U 0 0)).run D w'=.ok (Z aG) w':=fun w'=>AO U 0 0 w';go_enter aS,aK;go_wp2;go_ret;exact⟨⟨(U,0,0),rfl,gX _ _⟩,X _ _⟩
 ·obtain⟨rfl,rfl,rfl⟩:vo=O a/\vn=l.length/\vc=cap:=by simpa using hv
  have hx:Row ED w (J (O a) l.length vc) l:=Or.inr ⟨a,vc,rfl,h1,h2,h3⟩;have n0:=gK w (ah #[] 37);obtain⟨q0,w0,r0,o0,g0⟩:=iH okD w.heap.size (dI w #[] 37) (aj _) (hx.on n0) (by omega) 26;obtain⟨v1,v3,hv1⟩:=(Row.dG o0).len;obtain⟨n,hn⟩:∃ n,n=l.length:=⟨_,rfl⟩;have Q:=L (show (∃ v':Sl,K q0=K (dO v')/\Own ED w0 w.heap.size (dO v') l)/\ak w.heap.size w w0 from ⟨⟨(v1,l.length,v3),by rw [hv1],by subst hv1; exact o0⟩,n0.trans (g0.mono n0.size)⟩);rw [<- hn] at r0 ⊢;clear hv h1 h2 h3 hx o0 g0 n0 hv1 hn hl;have q:∀ w',(binOp .eql 26 (J (O a) n vc) (J U 0 0)).run D w'=.ok (Z aC) w':=fun w'=>AO (O a) n vc w';have r0:(V #[26,26] 26 #[J (O ⟨w.heap.size,0,U⟩) 0 0,J (O a) n vc]).run D (w.alloc (ah #[] 37))=.ok q0 w0:=r0;go_enter aS,aK;go_wp2_with (first | (at_builtin; refine wpList_append_run rfl _ _ 26 rfl rfl rfl r0 ?_) | fail);go_ret;exact Q.out
theorem AP (a:Option aX) (n c:Nat) (w:au):(binOp .eql 28 (J a n c) (J U 0 0)).run D w=.ok (Z a.isNone) w:=by
 simp [go_sem,binOp,run_equal_slice_nil (P:=D) w 28 43 a n c Try.underlying28]
theorem wo (v:Sl) (l:List fE) (w:au) (hv:Row EN w (dO v) l) (hl:l.length<=900) :
  aF D 46 #[dO v] w fun e w'=>(∃ v':Sl,e=K (dO v')/\Own EN w' w.heap.size (dO v') l)/\ak w.heap.size w w':=by
 obtain⟨vo,vn,vc⟩:=v;rcases hv with⟨rfl,hv⟩|⟨a,cap,hv,h1,h2,h3⟩
 ·obtain⟨rfl,rfl,rfl⟩:vo=U/\vn=0/\vc=0:=by simpa using hv
  clear hv hl;have q:∀ w',(binOp .eql 28 (J U 0 0) (J U 0 0)).run D w'=.ok (Z aG) w':=fun w'=>AP U 0 0 w';go_enter aT,aL;go_wp2;go_ret;exact⟨⟨(U,0,0),rfl,gX _ _⟩,X _ _⟩
 ·obtain⟨rfl,rfl,rfl⟩:vo=O a/\vn=l.length/\vc=cap:=by simpa using hv
  have hx:Row EN w (J (O a) l.length vc) l:=Or.inr ⟨a,vc,rfl,h1,h2,h3⟩;have n0:=gK w (ah #[] 43);obtain⟨q0,w0,r0,o0,g0⟩:=iH iO w.heap.size (dI w #[] 43) (aj _) (hx.on n0) (by omega) 28;obtain⟨v1,v3,hv1⟩:=(Row.dG o0).len;obtain⟨n,hn⟩:∃ n,n=l.length:=⟨_,rfl⟩;have Q:=L (show (∃ v':Sl,K q0=K (dO v')/\Own EN w0 w.heap.size (dO v') l)/\ak w.heap.size w w0 from ⟨⟨(v1,l.length,v3),by rw [hv1],by subst hv1; exact o0⟩,n0.trans (g0.mono n0.size)⟩);rw [<- hn] at r0 ⊢;clear hv h1 h2 h3 hx o0 g0 n0 hv1 hn hl;have q:∀ w',(binOp .eql 28 (J (O a) n vc) (J U 0 0)).run D w'=.ok (Z aC) w':=fun w'=>AP (O a) n vc w';have r0:(V #[28,28] 28 #[J (O ⟨w.heap.size,0,U⟩) 0 0,J (O a) n vc]).run D (w.alloc (ah #[] 43))=.ok q0 w0:=r0;go_enter aT,aL;go_wp2_with (first | (at_builtin; refine wpList_append_run rfl _ _ 28 rfl rfl rfl r0 ?_) | fail);go_ret;exact Q.out
theorem AQ (a:Option aX) (n c:Nat) (w:au):(binOp .eql 29 (J a n c) (J U 0 0)).run D w=.ok (Z a.isNone) w:=by
 simp [go_sem,binOp,run_equal_slice_nil (P:=D) w 29 90 a n c Try.underlying29]
theorem wu (v:Sl) (l:List qp) (w:au) (hv:Row EW w (dO v) l) (hl:l.length<=900) :
  aF D 47 #[dO v] w fun e w'=>(∃ v':Sl,e=K (dO v')/\Own EW w' w.heap.size (dO v') l)/\ak w.heap.size w w':=by
 obtain⟨vo,vn,vc⟩:=v;rcases hv with⟨rfl,hv⟩|⟨a,cap,hv,h1,h2,h3⟩
 ·obtain⟨rfl,rfl,rfl⟩:vo=U/\vn=0/\vc=0:=by simpa using hv
  clear hv hl;have q:∀ w',(binOp .eql 29 (J U 0 0) (J U 0 0)).run D w'=.ok (Z aG) w':=fun w'=>AQ U 0 0 w';go_enter aU,aM;go_wp2;go_ret;exact⟨⟨(U,0,0),rfl,gX _ _⟩,X _ _⟩
 ·obtain⟨rfl,rfl,rfl⟩:vo=O a/\vn=l.length/\vc=cap:=by simpa using hv
  have hx:Row EW w (J (O a) l.length vc) l:=Or.inr ⟨a,vc,rfl,h1,h2,h3⟩;have n0:=gK w (ah #[] 90);obtain⟨q0,w0,r0,o0,g0⟩:=iH okW w.heap.size (dI w #[] 90) (aj _) (hx.on n0) (by omega) 29;obtain⟨v1,v3,hv1⟩:=(Row.dG o0).len;obtain⟨n,hn⟩:∃ n,n=l.length:=⟨_,rfl⟩;have Q:=L (show (∃ v':Sl,K q0=K (dO v')/\Own EW w0 w.heap.size (dO v') l)/\ak w.heap.size w w0 from ⟨⟨(v1,l.length,v3),by rw [hv1],by subst hv1; exact o0⟩,n0.trans (g0.mono n0.size)⟩);rw [<- hn] at r0 ⊢;clear hv h1 h2 h3 hx o0 g0 n0 hv1 hn hl;have q:∀ w',(binOp .eql 29 (J (O a) n vc) (J U 0 0)).run D w'=.ok (Z aC) w':=fun w'=>AQ (O a) n vc w';have r0:(V #[29,29] 29 #[J (O ⟨w.heap.size,0,U⟩) 0 0,J (O a) n vc]).run D (w.alloc (ah #[] 90))=.ok q0 w0:=r0;go_enter aU,aM;go_wp2_with (first | (at_builtin; refine wpList_append_run rfl _ _ 29 rfl rfl rfl r0 ?_) | fail);go_ret;exact Q.out
theorem AU (a:Option aX) (n c:Nat) (w:au):(binOp .eql 35 (J a n c) (J U 0 0)).run D w=.ok (Z a.isNone) w:=by
 simp [go_sem,binOp,run_equal_slice_nil (P:=D) w 35 56 a n c Try.underlying35]
theorem jT (v:Sl) (l:List C5) (w:au) (hv:Row EC w (dO v) l) (hl:l.length<=900) :
  aF D 48 #[dO v] w fun e w'=>(∃ v':Sl,e=K (dO v')/\Own EC w' w.heap.size (dO v') l)/\ak w.heap.size w w':=by
 obtain⟨vo,vn,vc⟩:=v;rcases hv with⟨rfl,hv⟩|⟨a,cap,hv,h1,h2,h3⟩
 ·obtain⟨rfl,rfl,rfl⟩:vo=U/\vn=0/\vc=0:=by simpa using hv
  clear hv hl;have q:∀ w',(binOp .eql 35 (J U 0 0) (J U 0 0)).run D w'=.ok (Z aG) w':=fun w'=>AU U 0 0 w';go_enter aV,aN;go_wp2;go_ret;exact⟨⟨(U,0,0),rfl,gX _ _⟩,X _ _⟩
 ·obtain⟨rfl,rfl,rfl⟩:vo=O a/\vn=l.length/\vc=cap:=by simpa using hv
  have hx:Row EC w (J (O a) l.length vc) l:=Or.inr ⟨a,vc,rfl,h1,h2,h3⟩;have n0:=gK w (ah #[] 56);obtain⟨q0,w0,r0,o0,g0⟩:=iH Gs w.heap.size (dI w #[] 56) (aj _) (hx.on n0) (by omega) 35;obtain⟨v1,v3,hv1⟩:=(Row.dG o0).len;obtain⟨n,hn⟩:∃ n,n=l.length:=⟨_,rfl⟩;have Q:=L (show (∃ v':Sl,K q0=K (dO v')/\Own EC w0 w.heap.size (dO v') l)/\ak w.heap.size w w0 from ⟨⟨(v1,l.length,v3),by rw [hv1],by subst hv1; exact o0⟩,n0.trans (g0.mono n0.size)⟩);rw [<- hn] at r0 ⊢;clear hv h1 h2 h3 hx o0 g0 n0 hv1 hn hl;have q:∀ w',(binOp .eql 35 (J (O a) n vc) (J U 0 0)).run D w'=.ok (Z aC) w':=fun w'=>AU (O a) n vc w';have r0:(V #[35,35] 35 #[J (O ⟨w.heap.size,0,U⟩) 0 0,J (O a) n vc]).run D (w.alloc (ah #[] 56))=.ok q0 w0:=r0;go_enter aV,aN;go_wp2_with (first | (at_builtin; refine wpList_append_run rfl _ _ 35 rfl rfl rfl r0 ?_) | fail);go_ret;exact Q.out
theorem wB (l:List dW) (x:dW) (h:∀ (j:Nat) (y:dW),l[j]?=O y->y≠x):fC l x=-1:=by
 induction l with
 | nil=>rfl
 | cons a l ih =>
  rw [fC,if_neg (h 0 a rfl),ih fun j y hj=>h (j+1) y (by simpa using hj),if_pos rfl]
theorem AV (l:List dW) (k:Nat) (x:dW) (h:l[k]?=O x) (hall:∀ (j:Nat) (z:dW),j<k->l[j]?=O z->z≠x):fC l x=k:=by
 induction l generalizing k with
 | nil=>simp at h
 | cons a l ih =>
  cases k with
  | zero =>
   obtain rfl:a=x:=by simpa using h
   rw [fC,if_pos rfl]
   rfl
  | succ k =>
   have h2:=ih k (by simpa using h) fun j z hj hz=>hall (j+1) z (by omega) (by simpa using hz);rw [fC,if_neg (hall 0 a (by omega) rfl),h2,if_neg (by omega)];omega
theorem uy (l:List dW) (x:dW):decide ((0:Int)<=fC l x)=decide (x∈l):=by
 induction l with
 | nil=>simp [fC]
 | cons a l ih =>
  have hb:=mP l x;rw [fC];by_cases h:a=x
  ·rw [if_pos h]; simp [h]
  ·rw [if_neg h];have h':¬ x=a:=fun e=>h e.symm;simp only [List.mem_cons,h',false_or];rw [<- ih];by_cases h2:fC l x=-1
   ·rw [if_pos h2,h2]
   ·rw [if_neg h2];have h3:0<=fC l x:=by omega
    have h4:0<=fC l x+1:=by omega
    simp [h3,h4]
theorem yN (sv:Sl) (l:List dW) (x:dW) (w:au) (hs:sM w (dO sv) l) :
  aF D 66 #[dO sv,mO x] w fun e w'=>e=K (aD .i64 (fC l x))/\ak w.heap.size w w':=by
 obtain⟨c,d⟩:=x;obtain⟨so,sn,sc⟩:=sv;obtain⟨ao,ac,hv⟩:=hs.len;have hv:J so sn sc=J ao l.length ac:=hv;obtain⟨rfl,rfl,rfl⟩:so=ao/\sn=l.length/\sc=ac:=by simpa using hv
 have h0:=gK w (ah #[aD .i64 c,aD .i64 d] 25);have h2:=dI w #[aD .i64 c,aD .i64 d] 25;have B:=L h0;have HS:=L (hs.on h0);have X3:=L h2;have lm:=hs.most;unfold maxLen at lm;obtain⟨n,hn⟩:∃ n,n=l.length:=⟨_,rfl⟩;rw [<- hn] at HS lm ⊢;have HN:=L hn.symm;clear h0 h2 hs hv hn;go_enter Try.func66,Try.ntmps66;go_upto_region 1 with fail;generalize w.alloc (ah #[aD .i64 c,aD .i64 d] 25)=W at *;go_wp2
 go_loopw [8] (fun i wr=>∃ k:Nat,k<=n/\i=aD .i64 k/\ak W.heap.size W wr/\∀ (j:Nat) (y:dW),j<k->l[j]?=O y->y≠(c,d)) (fun i _=>n-(intOf i).toNat)
 case atStart=>exact⟨0,aO _,rfl,X _ _,fun j y h=>by omega⟩
 case round =>
  obtain⟨k,hk,rfl,hbe,hall⟩:=hrel;have BE:=L hbe;have AL:=L hall;clear hbe hall;by_cases hlt:k<n
  ·obtain⟨y,hy⟩:∃ y,l[k]?=O y:=⟨_,Y (by rw [HN.out]; exact hlt)⟩;obtain⟨p,ix,px⟩:=Pv HS.out rfl HN.out hy;have DD:ak W.heap.size W wr.drew:=BE.out.drew;obtain⟨p0,p1⟩:=px wr BE.out;obtain⟨y1,y2⟩:=y;simp only at p0 p1;obtain⟨x0,x1⟩:=(X3.out.on BE.out).cs2;have hw3:IntKind.i64.wrap ((k:Int)+1)=(k:Int)+1:=IntWalk.i64_in _ (by omega);obtain⟨r,hr⟩:∃ r,(c == y1 && d == y2)=r:=⟨_,rfl⟩;have he:=vS c d y1 y2 r hr;have DB:=L DD;have HY:=L hy;have HR:=L hr;clear px hy hr DD;cases r
   ·go_wp2_with fail
    go_quiet (fail)
    go_wp2
    go_roundw
    case rel=>exact⟨k+1,by omega,by go_num,⟨BE.out.os,BE.out.tape,BE.out.output,BE.out.size,BE.out.block⟩,fun j y' hj h1=>by
     rcases aH j k with h3|h3
     ·exact AL.out j y' h3 h1
     ·obtain rfl:j=k:=by omega
      have e1:=HY.out;rw [h1] at e1;rw [aB e1];intro e;obtain⟨rfl,rfl⟩:y1=c/\y2=d:=by simpa using e
      have:=HR.out;simp at this⟩
    case measure=>simp [intOf]; omega
   ·go_wp2_with fail
    go_quiet (fail)
    go_wp2;go_ret;have h8:=HR.out;obtain⟨rfl,rfl⟩:c=y1/\d=y2:=by simpa using h8
    exact⟨by rw [AV l k (c,d) HY.out AL.out]; rfl,B.out.trans (Below.mono ⟨BE.out.os,BE.out.tape,BE.out.output,BE.out.size,BE.out.block⟩ B.out.size)⟩
  ·obtain rfl:k=n:=by omega
   go_wp2;go_ret;have hd:fC l (c,d)=-1:=wB l (c,d) fun j y hj=>AL.out j y (by rw [<- HN.out]; exact (ay.1 hj).1) hj;exact⟨by rw [hd]; rfl,B.out.trans (BE.out.mono B.out.size)⟩
theorem sV (sv:Sl) (l:List dW) (x:dW) (w:au) (hs:sM w (dO sv) l) :
  aF D 43 #[dO sv,mO x] w fun e w'=>e=K (Z (decide (x∈l)))/\ak w.heap.size w w':=by
 have h0:=gK w (ah #[aD .i64 x.1,aD .i64 x.2] 25);have h2:=dI w #[aD .i64 x.1,aD .i64 x.2] 25;have C:=yN sv l x _ (hs.on h0);have R:=L (uy l x);obtain⟨c,d⟩:=x;obtain⟨so,sn,sc⟩:=sv;have B:=L h0;obtain⟨x0,x1⟩:=h2.cs2;generalize fC l (c,d)=r at *;generalize decide ((c,d)∈l)=s at *;clear h0 h2 hs;go_enter Try.func43,Try.ntmps43;go_wp2_with fail;refine C.mono ?_;rintro e w1 ⟨rfl,hb⟩;go_wp2;go_ret;exact⟨by have h:=R.out; subst h; rfl,B.out.trans (hb.mono B.out.size)⟩
theorem yO (me:Int) (nv av ev ov:Value) (sv:Sl) (l:List dW) (x:dW) (w:au) (hs:sM w (dO sv) l) :
  aF D 18 #[.agg #[aD .i64 me,nv,av,dO sv,ev,ov],mO x] w fun e w'=>e=K (Z (decide (x∈l)))/\ak w.heap.size w w':=by
 obtain⟨h0,h1,h2⟩:=iC w #[aD .i64 me,nv,av,dO sv,ev,ov] #[aD .i64 x.1,aD .i64 x.2] 31 25;have C:=sV sv l x _ (hs.on h0);obtain⟨c,d⟩:=x;obtain⟨so,sn,sc⟩:=sv;have B:=L h0;have b3:=h1.cell 3;obtain⟨x0,x1⟩:=h2.cs2;simp only [List.getElem?_toArray,List.getElem?_cons_zero,List.getElem?_cons_succ] at b3;generalize decide ((c,d)∈l)=s at *;clear h0 h1 h2 hs;go_enter Try.func18,Try.ntmps18;go_wp2_with fail;refine C.mono ?_;rintro e w1 ⟨rfl,hb⟩;go_wp2;go_ret;exact⟨rfl,B.out.trans (hb.mono B.out.size)⟩
end Av
namespace Pr
open Go.RowKit Go.Sort Pu Rw Va
def iA:List C5->List C5->Bool
 | [],[]=>aG
 | x::l,y::m=>oq x y && iA l m
 | _,_=>aC
theorem qN:∀ l m,iA l m=aG->l.length=m.length
 | [],[],_=>rfl
 | x::l,y::m,h=>by
  simp only [iA,aA] at h;simp [qN l m h.2]
 | [],y::m,h=>by simp [iA] at h
 | x::l,[],h=>by simp [iA] at h
theorem qO:∀ l m,l.length=m.length->(∀ (k:Nat) (x y:C5),l[k]?=O x->m[k]?=O y->oq x y=aG)->iA l m=aG
 | [],[],_,_=>rfl
 | x::l,y::m,hl,h=>by
  simp only [iA,aA];exact⟨h 0 x y rfl rfl,qO l m (by simpa using hl) (fun k a b ha hb=>h (k+1) a b (by simpa using ha) (by simpa using hb))⟩
 | [],y::m,hl,_=>by simp at hl
 | x::l,[],hl,_=>by simp at hl
theorem qP:∀ (l m:List C5) (k:Nat) (x y:C5),l[k]?=O x->m[k]?=O y->oq x y=aC->iA l m=aC
 | [],_,k,x,y,h,_,_=>by simp at h
 | _::_,[],k,x,y,_,h,_=>by simp at h
 | a::l,b::m,0,x,y,h1,h2,h3=>by
  simp at h1 h2;subst h1 h2;simp [iA,h3]
 | a::l,b::m,k+1,x,y,h1,h2,h3=>by
  simp only [iA,qP l m k x y (by simpa using h1) (by simpa using h2) h3,Bool.and_false]
theorem qQ:∀ l m:List C5,iA l m=aG↔l=m
 | [],[]=>by simp [iA]
 | x::l,y::m=>by
  simp only [iA,aA,tZ,qQ l m,List.cons.injEq]
 | [],y::m=>by simp [iA]
 | x::l,[]=>by simp [iA]
theorem yP (J6 bv:Value) (l m:List C5) (w:au) (ha:ig w J6 l) (hb:ig w bv m) (hl:l.length<=1000000) (_hm:m.length<=1000000) :
  aF D 17 #[J6,bv] w fun e w'=>e=K (Z (iA l m))/\Below w.heap.size w w':=by
 have HA:=L ha;have HB:=L hb;obtain⟨ao,ac,rfl⟩:=ha.len;obtain⟨bo,bc,rfl⟩:=hb.len;clear ha hb;by_cases hlen:l.length=m.length
 ·have HL:=L hlen;rw [<- hlen] at HB ⊢;generalize hn:l.length=n at *;have HN:=L hn;clear hlen hn;go_enter aW,aP;go_wp2
  go_loopw [5] (fun i wr=>∃ k:Nat,k<=n/\i=aD .i64 k/\Below w.heap.size w wr/\∀ (j:Nat) (x y:C5),j<k->l[j]?=O x->m[j]?=O y->oq x y=aG) (fun i _=>n-(intOf i).toNat)
  case atStart=>exact⟨0,aO _,rfl,X _ _,fun j x y h=>by omega⟩
  case round =>
   obtain⟨k,hk,rfl,hbe,hall⟩:=hrel;have BE:=L hbe;have AL:=L hall;clear hbe hall;by_cases hlt:k<n
   ·obtain⟨x,hx⟩:∃ x,l[k]?=O x:=⟨_,Y (by rw [HN.out]; exact hlt)⟩;obtain⟨y,hy⟩:∃ y,m[k]?=O y:=⟨_,Y (by rw [<- HL.out]; exact hlt)⟩;obtain⟨p,ix,px⟩:=Nl HA.out rfl HN.out hx;obtain⟨q,iy,py⟩:=Nl HB.out rfl HL.out.symm hy;have p0:=cell_regrown (px _ BE.out).1;have p1:=cell_regrown (px _ BE.out).2.1;have p2:=cell_regrown (px _ BE.out).2.2.1;have p3:=cell_regrown (px _ BE.out).2.2.2.1;have p4:=cell_regrown (px _ BE.out).2.2.2.2;have q0:=cell_regrown (py _ BE.out).1;have q1:=cell_regrown (py _ BE.out).2.1;have q2:=cell_regrown (py _ BE.out).2.2.1;have q3:=cell_regrown (py _ BE.out).2.2.2.1;have q4:=cell_regrown (py _ BE.out).2.2.2.2;clear px py;obtain⟨r,hr⟩:∃ r,oq x y=r:=⟨_,rfl⟩;have hne:=Nz x y r hr;have HX:=L hx;have HY:=L hy;have HR:=L hr;clear hx hy hr;cases r
    ·have R:=L (show iA l m=aC from qP l m k x y HX.out HY.out HR.out);go_wp2;refine wp_region_quiet_below (by kernel_rfl) (by kernel_rfl) ?_
     repeat (go_big_quiet_step (fail))
     refine wpQuiet_nil ?_;intro _ hw';obtain⟨⟨dq,osq⟩,hw''⟩:=hw';subst hw'';go_wp2;go_ret;exact⟨fD R.out.symm,BE.out.trans ((below_regrown wr dq osq).mono BE.out.size)⟩
    ·go_wp2;refine wp_region_quiet_below (by kernel_rfl) (by kernel_rfl) ?_
     repeat (go_big_quiet_step (fail))
     refine wpQuiet_nil ?_;intro _ hw';obtain⟨⟨dq,osq⟩,hw''⟩:=hw';subst hw'';clear ix iy p0 p1 p2 p3 p4 q0 q1 q2 q3 q4 hne;go_wp2
     go_roundw
     case rel=>exact⟨k+1,by omega,by go_num,BE.out.trans ((below_regrown wr dq osq).mono BE.out.size),fun j x' y' hj h1 h2=>by
      rcases aH j k with h3|h3
      ·exact AL.out j x' y' h3 h1 h2
      ·obtain rfl:j=k:=by omega
       have e1:=HX.out;have e2:=HY.out;rw [h1] at e1;rw [h2] at e2;rw [aB e1,aB e2];exact HR.out⟩
     case measure=>simp [intOf]; omega
   ·obtain rfl:k=n:=by omega
    have R:=L (show iA l m=aG from qO l m (by rw [HN.out]; exact HL.out) (fun j a b h1 h2=>AL.out j a b (by have:=(ay.1 h1).1; have:=HN.out; omega) h1 h2));go_wp2;go_ret;exact⟨fD R.out.symm,BE.out⟩
 ·have R:=L (show iA l m=aC by
   cases h:iA l m
   ·rfl
   ·exact absurd (qN _ _ h) hlen)
  have hne:(((l.length:Nat):Int) != ((m.length:Nat):Int))=aG:=by simp; omega
  have hne2:(((l.length:Nat):Int) == ((m.length:Nat):Int))=aC:=by simp; omega
  clear hlen;go_enter aW,aP;go_wp2;go_ret;exact⟨fD R.out.symm,X _ _⟩
end Pr
namespace Bk
open Go.RowKit Rw Ytmklifheakemeaa.Nm Pr
end Bk
namespace Rl
open Go.RowKit Pu Pr
end Rl
namespace Rl
open Go.RowKit Pu Rw Pr
end Rl
end Go.Proofs.Ytmklifheakemeaa
