/-
  Messages: which are . Conditions as told.
-/
import Derived.Test.YtghlpefopidlaaaGreatCQ011
import Derived.Test.YtghlpefopidlaaaGreatCQ007
import Derived.Laws.Cover3
import Derived.Maps.OwnSet
import Derived.DeepKeys4
import Derived.KernelRfl
set_option maxRecDepth 100000
set_option maxHeartbeats 64000000
open _root_.Go renaming World->ah,Calls->aG,Addr->aK
open Go.Builtin renaming append_->O
open Go.Ending renaming returned->K
open Go.Obj renaming cells->Z
open Go.Proofs.Tryz renaming prog->D,ntmps100->aj,ntmps101->ak,ntmps102->au,ntmps39->ay,ntmps99->aA,func100->aB,func101->aC,func102->aD,ntmps44->aF,func39->aH,func99->aI,func44->aJ
open Go.RowKit.Below renaming refl->Y
open Go.Value renaming slice->J,bool->V
open _root_.Nat renaming le_refl->X
open _root_.Option renaming none->L,some->U
namespace Go.Proofs.YtghlpefopidlaaaGreat
namespace Wr
open YtghlpefopidlaaaGreat.Nm At Pr
def PY (c:C5):Bool:=jN c.1 && (if c.2.1=1 then decide (c.2.2.2.2.size=0) && decide (c.2.2.1<=c.2.2.2.1) else if c.2.1=2 then decide (c.2.2.1=0) && (decide (c.2.2.2.1=0) && decide (c.2.2.2.2.size<=12)) else if c.2.1=3 then decide (c.2.2.1=0) && (decide (c.2.2.2.1=0) && decide (c.2.2.2.2.size<=11)) else false)
def MJ (p x:C5):Bool:=Op.bytesLess p.1.toList x.1.toList
def MN (l:List C5) (k:Nat):Bool:=match l[k]? with
 | some x=>PY x && (k == 0 || (match l[k-1]? with
  | some p=>MJ p x
  | none=>true))
 | none=>true
def jT (l:List C5):Bool:=(List.range l.length).all (MN l) && decide (l.length<=5)
end Wr
namespace Ta
open Go.RowKit Go.Sort Rw YtghlpefopidlaaaGreat.Nm At Pr Wr Va
end Ta
namespace Av
open Go.RowKit Rw YtghlpefopidlaaaGreat.Nm Pr Bk Rg
theorem DT (a:Option aK) (n c:Nat) (w:ah):(binOp .eql 24 (J a n c) (J L 0 0)).run D w=.ok (V a.isNone) w:=by
 simp [go_sem,binOp,run_equal_slice_nil (P:=D) w 24 3 a n c Tryz.underlying24]
theorem qG (v:Sl) (l:List Int) (w:ah) (hv:Row EI w (dH v) l) (hl:l.length<=900) :
  aG D 39 #[dH v] w fun e w'=>(∃ v':Sl,e=K (dH v')/\Own EI w' w.heap.size (dH v') l)/\Below w.heap.size w w':=by
 obtain⟨vo,vn,vc⟩:=v;rcases hv with⟨rfl,hv⟩|⟨a,cap,hv,h1,h2,h3⟩
 ·obtain⟨rfl,rfl,rfl⟩:vo=L/\vn=0/\vc=0:=by simpa using hv
  clear hv hl;have q:∀ w',(binOp .eql 24 (J L 0 0) (J L 0 0)).run D w'=.ok (V true) w':=fun w'=>DT L 0 0 w';go_enter aH,ay;go_wp2;go_ret;exact⟨⟨(L,0,0),rfl,gN _ _⟩,Y _ _⟩
 ·obtain⟨rfl,rfl,rfl⟩:vo=U a/\vn=l.length/\vc=cap:=by simpa using hv
  have hx:Row EI w (J (U a) l.length vc) l:=Or.inr ⟨a,vc,rfl,h1,h2,h3⟩;have n0:=iM w (Z #[] 3);obtain⟨q0,w0,r0,o0,g0⟩:=jA Nm.Jg w.heap.size (dG w #[] 3) (X _) (hx.on n0) (by omega) 24;obtain⟨v1,v3,hv1⟩:=(Row.dx o0).len;obtain⟨n,hn⟩:∃ n,n=l.length:=⟨_,rfl⟩;have Q:=Lib.hid (show (∃ v':Sl,K q0=K (dH v')/\Own EI w0 w.heap.size (dH v') l)/\Below w.heap.size w w0 from ⟨⟨(v1,l.length,v3),by rw [hv1],by subst hv1; exact o0⟩,n0.trans (g0.mono n0.size)⟩);rw [<- hn] at r0 ⊢;clear hv h1 h2 h3 hx o0 g0 n0 hv1 hn hl;have q:∀ w',(binOp .eql 24 (J (U a) n vc) (J L 0 0)).run D w'=.ok (V false) w':=fun w'=>DT (U a) n vc w';have r0:(O #[24,24] 24 #[J (U ⟨w.heap.size,0,L⟩) 0 0,J (U a) n vc]).run D (w.alloc (Z #[] 3))=.ok q0 w0:=r0;go_enter aH,ay;go_wp2_with (first | (at_builtin; refine wpList_append_run rfl _ _ 24 rfl rfl rfl r0 ?_) | fail);go_ret;exact Q.out
theorem DU (a:Option aK) (n c:Nat) (w:ah):(binOp .eql 26 (J a n c) (J L 0 0)).run D w=.ok (V a.isNone) w:=by
 simp [go_sem,binOp,run_equal_slice_nil (P:=D) w 26 23 a n c Tryz.underlying26]
theorem yC (v:Sl) (l:List dQ) (w:ah) (hv:Row EJ w (dH v) l) (hl:l.length<=900) :
  aG D 99 #[dH v] w fun e w'=>(∃ v':Sl,e=K (dH v')/\Own EJ w' w.heap.size (dH v') l)/\Below w.heap.size w w':=by
 obtain⟨vo,vn,vc⟩:=v;rcases hv with⟨rfl,hv⟩|⟨a,cap,hv,h1,h2,h3⟩
 ·obtain⟨rfl,rfl,rfl⟩:vo=L/\vn=0/\vc=0:=by simpa using hv
  clear hv hl;have q:∀ w',(binOp .eql 26 (J L 0 0) (J L 0 0)).run D w'=.ok (V true) w':=fun w'=>DU L 0 0 w';go_enter aI,aA;go_wp2;go_ret;exact⟨⟨(L,0,0),rfl,gN _ _⟩,Y _ _⟩
 ·obtain⟨rfl,rfl,rfl⟩:vo=U a/\vn=l.length/\vc=cap:=by simpa using hv
  have hx:Row EJ w (J (U a) l.length vc) l:=Or.inr ⟨a,vc,rfl,h1,h2,h3⟩;have n0:=iM w (Z #[] 23);obtain⟨q0,w0,r0,o0,g0⟩:=jA xX w.heap.size (dG w #[] 23) (X _) (hx.on n0) (by omega) 26;obtain⟨v1,v3,hv1⟩:=(Row.dx o0).len;obtain⟨n,hn⟩:∃ n,n=l.length:=⟨_,rfl⟩;have Q:=Lib.hid (show (∃ v':Sl,K q0=K (dH v')/\Own EJ w0 w.heap.size (dH v') l)/\Below w.heap.size w w0 from ⟨⟨(v1,l.length,v3),by rw [hv1],by subst hv1; exact o0⟩,n0.trans (g0.mono n0.size)⟩);rw [<- hn] at r0 ⊢;clear hv h1 h2 h3 hx o0 g0 n0 hv1 hn hl;have q:∀ w',(binOp .eql 26 (J (U a) n vc) (J L 0 0)).run D w'=.ok (V false) w':=fun w'=>DU (U a) n vc w';have r0:(O #[26,26] 26 #[J (U ⟨w.heap.size,0,L⟩) 0 0,J (U a) n vc]).run D (w.alloc (Z #[] 23))=.ok q0 w0:=r0;go_enter aI,aA;go_wp2_with (first | (at_builtin; refine wpList_append_run rfl _ _ 26 rfl rfl rfl r0 ?_) | fail);go_ret;exact Q.out
theorem DV (a:Option aK) (n c:Nat) (w:ah):(binOp .eql 25 (J a n c) (J L 0 0)).run D w=.ok (V a.isNone) w:=by
 simp [go_sem,binOp,run_equal_slice_nil (P:=D) w 25 36 a n c Tryz.underlying25]
theorem yD (v:Sl) (l:List iQ) (w:ah) (hv:Row ED w (dH v) l) (hl:l.length<=900) :
  aG D 100 #[dH v] w fun e w'=>(∃ v':Sl,e=K (dH v')/\Own ED w' w.heap.size (dH v') l)/\Below w.heap.size w w':=by
 obtain⟨vo,vn,vc⟩:=v;rcases hv with⟨rfl,hv⟩|⟨a,cap,hv,h1,h2,h3⟩
 ·obtain⟨rfl,rfl,rfl⟩:vo=L/\vn=0/\vc=0:=by simpa using hv
  clear hv hl;have q:∀ w',(binOp .eql 25 (J L 0 0) (J L 0 0)).run D w'=.ok (V true) w':=fun w'=>DV L 0 0 w';go_enter aB,aj;go_wp2;go_ret;exact⟨⟨(L,0,0),rfl,gN _ _⟩,Y _ _⟩
 ·obtain⟨rfl,rfl,rfl⟩:vo=U a/\vn=l.length/\vc=cap:=by simpa using hv
  have hx:Row ED w (J (U a) l.length vc) l:=Or.inr ⟨a,vc,rfl,h1,h2,h3⟩;have n0:=iM w (Z #[] 36);obtain⟨q0,w0,r0,o0,g0⟩:=jA okD w.heap.size (dG w #[] 36) (X _) (hx.on n0) (by omega) 25;obtain⟨v1,v3,hv1⟩:=(Row.dx o0).len;obtain⟨n,hn⟩:∃ n,n=l.length:=⟨_,rfl⟩;have Q:=Lib.hid (show (∃ v':Sl,K q0=K (dH v')/\Own ED w0 w.heap.size (dH v') l)/\Below w.heap.size w w0 from ⟨⟨(v1,l.length,v3),by rw [hv1],by subst hv1; exact o0⟩,n0.trans (g0.mono n0.size)⟩);rw [<- hn] at r0 ⊢;clear hv h1 h2 h3 hx o0 g0 n0 hv1 hn hl;have q:∀ w',(binOp .eql 25 (J (U a) n vc) (J L 0 0)).run D w'=.ok (V false) w':=fun w'=>DV (U a) n vc w';have r0:(O #[25,25] 25 #[J (U ⟨w.heap.size,0,L⟩) 0 0,J (U a) n vc]).run D (w.alloc (Z #[] 36))=.ok q0 w0:=r0;go_enter aB,aj;go_wp2_with (first | (at_builtin; refine wpList_append_run rfl _ _ 25 rfl rfl rfl r0 ?_) | fail);go_ret;exact Q.out
theorem DW (a:Option aK) (n c:Nat) (w:ah):(binOp .eql 27 (J a n c) (J L 0 0)).run D w=.ok (V a.isNone) w:=by
 simp [go_sem,binOp,run_equal_slice_nil (P:=D) w 27 67 a n c Tryz.underlying27]
theorem yE (v:Sl) (l:List iw) (w:ah) (hv:Row EN w (dH v) l) (hl:l.length<=900) :
  aG D 101 #[dH v] w fun e w'=>(∃ v':Sl,e=K (dH v')/\Own EN w' w.heap.size (dH v') l)/\Below w.heap.size w w':=by
 obtain⟨vo,vn,vc⟩:=v;rcases hv with⟨rfl,hv⟩|⟨a,cap,hv,h1,h2,h3⟩
 ·obtain⟨rfl,rfl,rfl⟩:vo=L/\vn=0/\vc=0:=by simpa using hv
  clear hv hl;have q:∀ w',(binOp .eql 27 (J L 0 0) (J L 0 0)).run D w'=.ok (V true) w':=fun w'=>DW L 0 0 w';go_enter aC,ak;go_wp2;go_ret;exact⟨⟨(L,0,0),rfl,gN _ _⟩,Y _ _⟩
 ·obtain⟨rfl,rfl,rfl⟩:vo=U a/\vn=l.length/\vc=cap:=by simpa using hv
  have hx:Row EN w (J (U a) l.length vc) l:=Or.inr ⟨a,vc,rfl,h1,h2,h3⟩;have n0:=iM w (Z #[] 67);obtain⟨q0,w0,r0,o0,g0⟩:=jA jI w.heap.size (dG w #[] 67) (X _) (hx.on n0) (by omega) 27;obtain⟨v1,v3,hv1⟩:=(Row.dx o0).len;obtain⟨n,hn⟩:∃ n,n=l.length:=⟨_,rfl⟩;have Q:=Lib.hid (show (∃ v':Sl,K q0=K (dH v')/\Own EN w0 w.heap.size (dH v') l)/\Below w.heap.size w w0 from ⟨⟨(v1,l.length,v3),by rw [hv1],by subst hv1; exact o0⟩,n0.trans (g0.mono n0.size)⟩);rw [<- hn] at r0 ⊢;clear hv h1 h2 h3 hx o0 g0 n0 hv1 hn hl;have q:∀ w',(binOp .eql 27 (J (U a) n vc) (J L 0 0)).run D w'=.ok (V false) w':=fun w'=>DW (U a) n vc w';have r0:(O #[27,27] 27 #[J (U ⟨w.heap.size,0,L⟩) 0 0,J (U a) n vc]).run D (w.alloc (Z #[] 67))=.ok q0 w0:=r0;go_enter aC,ak;go_wp2_with (first | (at_builtin; refine wpList_append_run rfl _ _ 27 rfl rfl rfl r0 ?_) | fail);go_ret;exact Q.out
theorem DX (a:Option aK) (n c:Nat) (w:ah):(binOp .eql 28 (J a n c) (J L 0 0)).run D w=.ok (V a.isNone) w:=by
 simp [go_sem,binOp,run_equal_slice_nil (P:=D) w 28 88 a n c Tryz.underlying28]
theorem yF (v:Sl) (l:List jJ) (w:ah) (hv:Row EW w (dH v) l) (hl:l.length<=900) :
  aG D 102 #[dH v] w fun e w'=>(∃ v':Sl,e=K (dH v')/\Own EW w' w.heap.size (dH v') l)/\Below w.heap.size w w':=by
 obtain⟨vo,vn,vc⟩:=v;rcases hv with⟨rfl,hv⟩|⟨a,cap,hv,h1,h2,h3⟩
 ·obtain⟨rfl,rfl,rfl⟩:vo=L/\vn=0/\vc=0:=by simpa using hv
  clear hv hl;have q:∀ w',(binOp .eql 28 (J L 0 0) (J L 0 0)).run D w'=.ok (V true) w':=fun w'=>DX L 0 0 w';go_enter aD,au;go_wp2;go_ret;exact⟨⟨(L,0,0),rfl,gN _ _⟩,Y _ _⟩
 ·obtain⟨rfl,rfl,rfl⟩:vo=U a/\vn=l.length/\vc=cap:=by simpa using hv
  have hx:Row EW w (J (U a) l.length vc) l:=Or.inr ⟨a,vc,rfl,h1,h2,h3⟩;have n0:=iM w (Z #[] 88);obtain⟨q0,w0,r0,o0,g0⟩:=jA okW w.heap.size (dG w #[] 88) (X _) (hx.on n0) (by omega) 28;obtain⟨v1,v3,hv1⟩:=(Row.dx o0).len;obtain⟨n,hn⟩:∃ n,n=l.length:=⟨_,rfl⟩;have Q:=Lib.hid (show (∃ v':Sl,K q0=K (dH v')/\Own EW w0 w.heap.size (dH v') l)/\Below w.heap.size w w0 from ⟨⟨(v1,l.length,v3),by rw [hv1],by subst hv1; exact o0⟩,n0.trans (g0.mono n0.size)⟩);rw [<- hn] at r0 ⊢;clear hv h1 h2 h3 hx o0 g0 n0 hv1 hn hl;have q:∀ w',(binOp .eql 28 (J (U a) n vc) (J L 0 0)).run D w'=.ok (V false) w':=fun w'=>DX (U a) n vc w';have r0:(O #[28,28] 28 #[J (U ⟨w.heap.size,0,L⟩) 0 0,J (U a) n vc]).run D (w.alloc (Z #[] 88))=.ok q0 w0:=r0;go_enter aD,au;go_wp2_with (first | (at_builtin; refine wpList_append_run rfl _ _ 28 rfl rfl rfl r0 ?_) | fail);go_ret;exact Q.out
theorem DY (a:Option aK) (n c:Nat) (w:ah):(binOp .eql 34 (J a n c) (J L 0 0)).run D w=.ok (V a.isNone) w:=by
 simp [go_sem,binOp,run_equal_slice_nil (P:=D) w 34 91 a n c Tryz.underlying34]
theorem iW (v:Sl) (l:List C5) (w:ah) (hv:Row EC w (dH v) l) (hl:l.length<=900) :
  aG D 44 #[dH v] w fun e w'=>(∃ v':Sl,e=K (dH v')/\Own EC w' w.heap.size (dH v') l)/\Below w.heap.size w w':=by
 obtain⟨vo,vn,vc⟩:=v;rcases hv with⟨rfl,hv⟩|⟨a,cap,hv,h1,h2,h3⟩
 ·obtain⟨rfl,rfl,rfl⟩:vo=L/\vn=0/\vc=0:=by simpa using hv
  clear hv hl;have q:∀ w',(binOp .eql 34 (J L 0 0) (J L 0 0)).run D w'=.ok (V true) w':=fun w'=>DY L 0 0 w';go_enter aJ,aF;go_wp2;go_ret;exact⟨⟨(L,0,0),rfl,gN _ _⟩,Y _ _⟩
 ·obtain⟨rfl,rfl,rfl⟩:vo=U a/\vn=l.length/\vc=cap:=by simpa using hv
  have hx:Row EC w (J (U a) l.length vc) l:=Or.inr ⟨a,vc,rfl,h1,h2,h3⟩;have n0:=iM w (Z #[] 91);obtain⟨q0,w0,r0,o0,g0⟩:=jA qC w.heap.size (dG w #[] 91) (X _) (hx.on n0) (by omega) 34;obtain⟨v1,v3,hv1⟩:=(Row.dx o0).len;obtain⟨n,hn⟩:∃ n,n=l.length:=⟨_,rfl⟩;have Q:=Lib.hid (show (∃ v':Sl,K q0=K (dH v')/\Own EC w0 w.heap.size (dH v') l)/\Below w.heap.size w w0 from ⟨⟨(v1,l.length,v3),by rw [hv1],by subst hv1; exact o0⟩,n0.trans (g0.mono n0.size)⟩);rw [<- hn] at r0 ⊢;clear hv h1 h2 h3 hx o0 g0 n0 hv1 hn hl;have q:∀ w',(binOp .eql 34 (J (U a) n vc) (J L 0 0)).run D w'=.ok (V false) w':=fun w'=>DY (U a) n vc w';have r0:(O #[34,34] 34 #[J (U ⟨w.heap.size,0,L⟩) 0 0,J (U a) n vc]).run D (w.alloc (Z #[] 91))=.ok q0 w0:=r0;go_enter aJ,aF;go_wp2_with (first | (at_builtin; refine wpList_append_run rfl _ _ 34 rfl rfl rfl r0 ?_) | fail);go_ret;exact Q.out
end Av
namespace Av
open Go.RowKit Rw Bk Go.Maps Go.ChangeMaps
noncomputable def kl (l:dQ):Lit:=(keyOf D 23 (oJ l)).getD (Lit.bool false)
end Av
end Go.Proofs.YtghlpefopidlaaaGreat
