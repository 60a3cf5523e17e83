/-
  Messages: which are . Conditions as told.
-/
import Derived.Test.YtghlpefopidlaaaGreatLQ010
import Derived.Laws.Cover3
set_option maxRecDepth 100000
set_option maxHeartbeats 64000000
open _root_.Go renaming World->aG,Value->aN,Addr->aS,Calls->bH
open Go.Builtin renaming append_->aD
open Go.Ending renaming returned->Z
open Go.Instr renaming sliceAt->aM
open Go.IntKind renaming i64->aL
open Go.Lib renaming hid->aj
open Go.Obj renaming cells->aF
open Go.Operand renaming tmp->Y
open Go.Proofs.Tryz renaming prog->O,ntmps100->aU,ntmps101->aV,ntmps102->aW,ntmps39->aX,ntmps99->aY,func100->aZ,func101->bf,func102->bg,ntmps44->bF,func39->bI,func99->bK,func44->bL
open Go.Proofs.YtghlpefopidlaaaGreat.Rg renaming dG->aA,dW->bM,dU->bN,gQ->bO,gD->bR,iY->bS,lJ->bU,fZ->bV,dP->bW
open Go.RowKit renaming Below->aJ
open Go.RowKit.Below renaming refl->J,heap_setCell->aB
open Go.Value renaming slice->L,pointer->V,bool->aI,int->aK
open _root_.List renaming getElem?_toArray->ah,getElem?_cons_zero->ak,getElem?_cons_succ->au,length_take->aH,length_singleton->aO,length_append->aQ,length_drop->aT
open _root_.Nat renaming le_refl->aC,lt_of_le_of_lt->aR,le_of_lt->bG
open _root_.Option renaming none->U,some->X
open _root_.Or renaming inr->ay,inl->aP
namespace Go.Proofs.YtghlpefopidlaaaGreat
namespace Wr
open YtghlpefopidlaaaGreat.Nm At Pr
def TQ (c:C5):Bool:=pK c.1 && (if c.2.1=1 then decide (c.2.2.2.2.size=0) && decide (c.2.2.1<=c.2.2.2.1) else if c.2.1=2 then decide (c.2.2.1=0) && (decide (c.2.2.2.1=0) && decide (c.2.2.2.2.size<=12)) else if c.2.1=3 then decide (c.2.2.1=0) && (decide (c.2.2.2.1=0) && decide (c.2.2.2.2.size<=11)) else false)
def ajL (p x:C5):Bool:=Op.bytesLess p.1.toList x.1.toList
def WV (l:List C5) (k:Nat):Bool:=match l[k]? with
 | some x=>TQ x && (k == 0 || (match l[k-1]? with
  | some p=>ajL p x
  | none=>true))
 | none=>true
def iW (l:List C5):Bool:=(List.range l.length).all (WV l) && decide (l.length<=5)
theorem Oa (l:List C5) (h:∀ j,j<l.length->WV l j=true):iW l=decide (l.length<=5):=by
 unfold iW;rw [List.all_eq_true.2 fun j hj=>h j (List.mem_range.1 hj),Bool.true_and]
end Wr
namespace Av
open Go.RowKit Rw YtghlpefopidlaaaGreat.Nm Pr Bk Rg
theorem WW (a:Option aS) (n c:Nat) (w:aG):(binOp .eql 24 (L a n c) (L U 0 0)).run O w=.ok (aI a.isNone) w:=by
 simp [go_sem,binOp,run_equal_slice_nil (P:=O) w 24 3 a n c Tryz.underlying24]
theorem Ci (v:Sl) (l:List Int) (w:aG) (hv:Row EI w (dX v) l) (hl:l.length<=900) :
  bH O 39 #[dX v] w fun e w'=>(∃ v':Sl,e=Z (dX v')/\Own EI w' w.heap.size (dX v') l)/\aJ w.heap.size w w':=by
 obtain⟨vo,vn,vc⟩:=v;rcases hv with⟨rfl,hv⟩|⟨a,cap,hv,h1,h2,h3⟩
 ·obtain⟨rfl,rfl,rfl⟩:vo=U/\vn=0/\vc=0:=by simpa using hv
  clear hv hl;have q:∀ w',(binOp .eql 24 (L U 0 0) (L U 0 0)).run O w'=.ok (aI true) w':=fun w'=>WW U 0 0 w';go_enter bI,aX;go_wp2;go_ret;exact⟨⟨(U,0,0),rfl,iO _ _⟩,J _ _⟩
 ·obtain⟨rfl,rfl,rfl⟩:vo=X a/\vn=l.length/\vc=cap:=by simpa using hv
  have hx:Row EI w (L (X a) l.length vc) l:=ay ⟨a,vc,rfl,h1,h2,h3⟩;have n0:=gN w (aF #[] 3);obtain⟨q0,w0,r0,o0,g0⟩:=jN Nm.VH w.heap.size (dQ w #[] 3) (aC _) (hx.on n0) (by omega) 24;obtain⟨T,a0,hv1⟩:=(Row.dJ o0).len;obtain⟨n,hn⟩:∃ n,n=l.length:=⟨_,rfl⟩;have Q:=aj (show (∃ v':Sl,Z q0=Z (dX v')/\Own EI w0 w.heap.size (dX v') l)/\aJ w.heap.size w w0 from ⟨⟨(T,l.length,a0),by rw [hv1],by subst hv1; exact o0⟩,n0.trans (g0.mono n0.size)⟩);rw [<- hn] at r0 ⊢;clear hv h1 h2 h3 hx o0 g0 n0 hv1 hn hl;have q:∀ w',(binOp .eql 24 (L (X a) n vc) (L U 0 0)).run O w'=.ok (aI false) w':=fun w'=>WW (X a) n vc w';have r0:(aD #[24,24] 24 #[L (X ⟨w.heap.size,0,U⟩) 0 0,L (X a) n vc]).run O (w.alloc (aF #[] 3))=.ok q0 w0:=r0;go_enter bI,aX;go_wp2_with (first | (at_builtin; refine wpList_append_run rfl _ _ 24 rfl rfl rfl r0 ?_) | fail);go_ret;exact Q.out
theorem WX (a:Option aS) (n c:Nat) (w:aG):(binOp .eql 26 (L a n c) (L U 0 0)).run O w=.ok (aI a.isNone) w:=by
 simp [go_sem,binOp,run_equal_slice_nil (P:=O) w 26 23 a n c Tryz.underlying26]
theorem Ob (v:Sl) (l:List eU) (w:aG) (hv:Row EJ w (dX v) l) (hl:l.length<=900) :
  bH O 99 #[dX v] w fun e w'=>(∃ v':Sl,e=Z (dX v')/\Own EJ w' w.heap.size (dX v') l)/\aJ w.heap.size w w':=by
 obtain⟨vo,vn,vc⟩:=v;rcases hv with⟨rfl,hv⟩|⟨a,cap,hv,h1,h2,h3⟩
 ·obtain⟨rfl,rfl,rfl⟩:vo=U/\vn=0/\vc=0:=by simpa using hv
  clear hv hl;have q:∀ w',(binOp .eql 26 (L U 0 0) (L U 0 0)).run O w'=.ok (aI true) w':=fun w'=>WX U 0 0 w';go_enter bK,aY;go_wp2;go_ret;exact⟨⟨(U,0,0),rfl,iO _ _⟩,J _ _⟩
 ·obtain⟨rfl,rfl,rfl⟩:vo=X a/\vn=l.length/\vc=cap:=by simpa using hv
  have hx:Row EJ w (L (X a) l.length vc) l:=ay ⟨a,vc,rfl,h1,h2,h3⟩;have n0:=gN w (aF #[] 23);obtain⟨q0,w0,r0,o0,g0⟩:=jN Ev w.heap.size (dQ w #[] 23) (aC _) (hx.on n0) (by omega) 26;obtain⟨T,a0,hv1⟩:=(Row.dJ o0).len;obtain⟨n,hn⟩:∃ n,n=l.length:=⟨_,rfl⟩;have Q:=aj (show (∃ v':Sl,Z q0=Z (dX v')/\Own EJ w0 w.heap.size (dX v') l)/\aJ w.heap.size w w0 from ⟨⟨(T,l.length,a0),by rw [hv1],by subst hv1; exact o0⟩,n0.trans (g0.mono n0.size)⟩);rw [<- hn] at r0 ⊢;clear hv h1 h2 h3 hx o0 g0 n0 hv1 hn hl;have q:∀ w',(binOp .eql 26 (L (X a) n vc) (L U 0 0)).run O w'=.ok (aI false) w':=fun w'=>WX (X a) n vc w';have r0:(aD #[26,26] 26 #[L (X ⟨w.heap.size,0,U⟩) 0 0,L (X a) n vc]).run O (w.alloc (aF #[] 23))=.ok q0 w0:=r0;go_enter bK,aY;go_wp2_with (first | (at_builtin; refine wpList_append_run rfl _ _ 26 rfl rfl rfl r0 ?_) | fail);go_ret;exact Q.out
theorem WY (a:Option aS) (n c:Nat) (w:aG):(binOp .eql 25 (L a n c) (L U 0 0)).run O w=.ok (aI a.isNone) w:=by
 simp [go_sem,binOp,run_equal_slice_nil (P:=O) w 25 36 a n c Tryz.underlying25]
theorem Oc (v:Sl) (l:List kY) (w:aG) (hv:Row ED w (dX v) l) (hl:l.length<=900) :
  bH O 100 #[dX v] w fun e w'=>(∃ v':Sl,e=Z (dX v')/\Own ED w' w.heap.size (dX v') l)/\aJ w.heap.size w w':=by
 obtain⟨vo,vn,vc⟩:=v;rcases hv with⟨rfl,hv⟩|⟨a,cap,hv,h1,h2,h3⟩
 ·obtain⟨rfl,rfl,rfl⟩:vo=U/\vn=0/\vc=0:=by simpa using hv
  clear hv hl;have q:∀ w',(binOp .eql 25 (L U 0 0) (L U 0 0)).run O w'=.ok (aI true) w':=fun w'=>WY U 0 0 w';go_enter aZ,aU;go_wp2;go_ret;exact⟨⟨(U,0,0),rfl,iO _ _⟩,J _ _⟩
 ·obtain⟨rfl,rfl,rfl⟩:vo=X a/\vn=l.length/\vc=cap:=by simpa using hv
  have hx:Row ED w (L (X a) l.length vc) l:=ay ⟨a,vc,rfl,h1,h2,h3⟩;have n0:=gN w (aF #[] 36);obtain⟨q0,w0,r0,o0,g0⟩:=jN okD w.heap.size (dQ w #[] 36) (aC _) (hx.on n0) (by omega) 25;obtain⟨T,a0,hv1⟩:=(Row.dJ o0).len;obtain⟨n,hn⟩:∃ n,n=l.length:=⟨_,rfl⟩;have Q:=aj (show (∃ v':Sl,Z q0=Z (dX v')/\Own ED w0 w.heap.size (dX v') l)/\aJ w.heap.size w w0 from ⟨⟨(T,l.length,a0),by rw [hv1],by subst hv1; exact o0⟩,n0.trans (g0.mono n0.size)⟩);rw [<- hn] at r0 ⊢;clear hv h1 h2 h3 hx o0 g0 n0 hv1 hn hl;have q:∀ w',(binOp .eql 25 (L (X a) n vc) (L U 0 0)).run O w'=.ok (aI false) w':=fun w'=>WY (X a) n vc w';have r0:(aD #[25,25] 25 #[L (X ⟨w.heap.size,0,U⟩) 0 0,L (X a) n vc]).run O (w.alloc (aF #[] 36))=.ok q0 w0:=r0;go_enter aZ,aU;go_wp2_with (first | (at_builtin; refine wpList_append_run rfl _ _ 25 rfl rfl rfl r0 ?_) | fail);go_ret;exact Q.out
theorem WZ (a:Option aS) (n c:Nat) (w:aG):(binOp .eql 27 (L a n c) (L U 0 0)).run O w=.ok (aI a.isNone) w:=by
 simp [go_sem,binOp,run_equal_slice_nil (P:=O) w 27 67 a n c Tryz.underlying27]
theorem Od (v:Sl) (l:List jk) (w:aG) (hv:Row EN w (dX v) l) (hl:l.length<=900) :
  bH O 101 #[dX v] w fun e w'=>(∃ v':Sl,e=Z (dX v')/\Own EN w' w.heap.size (dX v') l)/\aJ w.heap.size w w':=by
 obtain⟨vo,vn,vc⟩:=v;rcases hv with⟨rfl,hv⟩|⟨a,cap,hv,h1,h2,h3⟩
 ·obtain⟨rfl,rfl,rfl⟩:vo=U/\vn=0/\vc=0:=by simpa using hv
  clear hv hl;have q:∀ w',(binOp .eql 27 (L U 0 0) (L U 0 0)).run O w'=.ok (aI true) w':=fun w'=>WZ U 0 0 w';go_enter bf,aV;go_wp2;go_ret;exact⟨⟨(U,0,0),rfl,iO _ _⟩,J _ _⟩
 ·obtain⟨rfl,rfl,rfl⟩:vo=X a/\vn=l.length/\vc=cap:=by simpa using hv
  have hx:Row EN w (L (X a) l.length vc) l:=ay ⟨a,vc,rfl,h1,h2,h3⟩;have n0:=gN w (aF #[] 67);obtain⟨q0,w0,r0,o0,g0⟩:=jN mM w.heap.size (dQ w #[] 67) (aC _) (hx.on n0) (by omega) 27;obtain⟨T,a0,hv1⟩:=(Row.dJ o0).len;obtain⟨n,hn⟩:∃ n,n=l.length:=⟨_,rfl⟩;have Q:=aj (show (∃ v':Sl,Z q0=Z (dX v')/\Own EN w0 w.heap.size (dX v') l)/\aJ w.heap.size w w0 from ⟨⟨(T,l.length,a0),by rw [hv1],by subst hv1; exact o0⟩,n0.trans (g0.mono n0.size)⟩);rw [<- hn] at r0 ⊢;clear hv h1 h2 h3 hx o0 g0 n0 hv1 hn hl;have q:∀ w',(binOp .eql 27 (L (X a) n vc) (L U 0 0)).run O w'=.ok (aI false) w':=fun w'=>WZ (X a) n vc w';have r0:(aD #[27,27] 27 #[L (X ⟨w.heap.size,0,U⟩) 0 0,L (X a) n vc]).run O (w.alloc (aF #[] 67))=.ok q0 w0:=r0;go_enter bf,aV;go_wp2_with (first | (at_builtin; refine wpList_append_run rfl _ _ 27 rfl rfl rfl r0 ?_) | fail);go_ret;exact Q.out
theorem Xa (a:Option aS) (n c:Nat) (w:aG):(binOp .eql 28 (L a n c) (L U 0 0)).run O w=.ok (aI a.isNone) w:=by
 simp [go_sem,binOp,run_equal_slice_nil (P:=O) w 28 88 a n c Tryz.underlying28]
theorem Oe (v:Sl) (l:List ny) (w:aG) (hv:Row EW w (dX v) l) (hl:l.length<=900) :
  bH O 102 #[dX v] w fun e w'=>(∃ v':Sl,e=Z (dX v')/\Own EW w' w.heap.size (dX v') l)/\aJ w.heap.size w w':=by
 obtain⟨vo,vn,vc⟩:=v;rcases hv with⟨rfl,hv⟩|⟨a,cap,hv,h1,h2,h3⟩
 ·obtain⟨rfl,rfl,rfl⟩:vo=U/\vn=0/\vc=0:=by simpa using hv
  clear hv hl;have q:∀ w',(binOp .eql 28 (L U 0 0) (L U 0 0)).run O w'=.ok (aI true) w':=fun w'=>Xa U 0 0 w';go_enter bg,aW;go_wp2;go_ret;exact⟨⟨(U,0,0),rfl,iO _ _⟩,J _ _⟩
 ·obtain⟨rfl,rfl,rfl⟩:vo=X a/\vn=l.length/\vc=cap:=by simpa using hv
  have hx:Row EW w (L (X a) l.length vc) l:=ay ⟨a,vc,rfl,h1,h2,h3⟩;have n0:=gN w (aF #[] 88);obtain⟨q0,w0,r0,o0,g0⟩:=jN okW w.heap.size (dQ w #[] 88) (aC _) (hx.on n0) (by omega) 28;obtain⟨T,a0,hv1⟩:=(Row.dJ o0).len;obtain⟨n,hn⟩:∃ n,n=l.length:=⟨_,rfl⟩;have Q:=aj (show (∃ v':Sl,Z q0=Z (dX v')/\Own EW w0 w.heap.size (dX v') l)/\aJ w.heap.size w w0 from ⟨⟨(T,l.length,a0),by rw [hv1],by subst hv1; exact o0⟩,n0.trans (g0.mono n0.size)⟩);rw [<- hn] at r0 ⊢;clear hv h1 h2 h3 hx o0 g0 n0 hv1 hn hl;have q:∀ w',(binOp .eql 28 (L (X a) n vc) (L U 0 0)).run O w'=.ok (aI false) w':=fun w'=>Xa (X a) n vc w';have r0:(aD #[28,28] 28 #[L (X ⟨w.heap.size,0,U⟩) 0 0,L (X a) n vc]).run O (w.alloc (aF #[] 88))=.ok q0 w0:=r0;go_enter bg,aW;go_wp2_with (first | (at_builtin; refine wpList_append_run rfl _ _ 28 rfl rfl rfl r0 ?_) | fail);go_ret;exact Q.out
theorem Xb (a:Option aS) (n c:Nat) (w:aG):(binOp .eql 34 (L a n c) (L U 0 0)).run O w=.ok (aI a.isNone) w:=by
 simp [go_sem,binOp,run_equal_slice_nil (P:=O) w 34 91 a n c Tryz.underlying34]
theorem nX (v:Sl) (l:List C5) (w:aG) (hv:Row EC w (dX v) l) (hl:l.length<=900) :
  bH O 44 #[dX v] w fun e w'=>(∃ v':Sl,e=Z (dX v')/\Own EC w' w.heap.size (dX v') l)/\aJ w.heap.size w w':=by
 obtain⟨vo,vn,vc⟩:=v;rcases hv with⟨rfl,hv⟩|⟨a,cap,hv,h1,h2,h3⟩
 ·obtain⟨rfl,rfl,rfl⟩:vo=U/\vn=0/\vc=0:=by simpa using hv
  clear hv hl;have q:∀ w',(binOp .eql 34 (L U 0 0) (L U 0 0)).run O w'=.ok (aI true) w':=fun w'=>Xb U 0 0 w';go_enter bL,bF;go_wp2;go_ret;exact⟨⟨(U,0,0),rfl,iO _ _⟩,J _ _⟩
 ·obtain⟨rfl,rfl,rfl⟩:vo=X a/\vn=l.length/\vc=cap:=by simpa using hv
  have hx:Row EC w (L (X a) l.length vc) l:=ay ⟨a,vc,rfl,h1,h2,h3⟩;have n0:=gN w (aF #[] 91);obtain⟨q0,w0,r0,o0,g0⟩:=jN wF w.heap.size (dQ w #[] 91) (aC _) (hx.on n0) (by omega) 34;obtain⟨T,a0,hv1⟩:=(Row.dJ o0).len;obtain⟨n,hn⟩:∃ n,n=l.length:=⟨_,rfl⟩;have Q:=aj (show (∃ v':Sl,Z q0=Z (dX v')/\Own EC w0 w.heap.size (dX v') l)/\aJ w.heap.size w w0 from ⟨⟨(T,l.length,a0),by rw [hv1],by subst hv1; exact o0⟩,n0.trans (g0.mono n0.size)⟩);rw [<- hn] at r0 ⊢;clear hv h1 h2 h3 hx o0 g0 n0 hv1 hn hl;have q:∀ w',(binOp .eql 34 (L (X a) n vc) (L U 0 0)).run O w'=.ok (aI false) w':=fun w'=>Xb (X a) n vc w';have r0:(aD #[34,34] 34 #[L (X ⟨w.heap.size,0,U⟩) 0 0,L (X a) n vc]).run O (w.alloc (aF #[] 91))=.ok q0 w0:=r0;go_enter bL,bF;go_wp2_with (first | (at_builtin; refine wpList_append_run rfl _ _ 34 rfl rfl rfl r0 ?_) | fail);go_ret;exact Q.out
end Av
namespace Bk
open Go.RowKit Rw YtghlpefopidlaaaGreat.Nm Pr
def Qg (B b2 _:Nat) (so:Option aS) (sn sc at_:Nat) (lo hiv:aN) (z:jk) (lt ld:List jk) (i:Nat) (v:aN) (x:aG):Prop :=
 match i with
 | 0=>∃ g,v=L (X ⟨g,0,U⟩) 0 0/\B<=g/\dK x g #[] 67
 | 1=>v=V (X ⟨b2,4,U⟩)
 | 2=>v=L so sn sc
 | 3=>v=aK aL (at_:Int)
 | 4=>v=lo
 | 5=>jH x B v lt
 | 6=>v=qO z
 | 7=>jH x B v [z]
 | 8=>jH x B v (lt++[z])
 | 9=>v=V (X ⟨b2,4,U⟩)
 | 10=>v=L so sn sc
 | 11=>v=aK aL (at_:Int)
 | 12=>v=hiv
 | 13=>jH x B v (lt++[z]++ld)
 | 14=>v=V (X ⟨b2,4,U⟩)
 | _=>True
noncomputable def adF:Code:=((Tryz.f57.body.bind (eO 8)).getD .skip)
theorem Xc (B b2 b3:Nat) (so:Option aS) (sn sc at_:Nat) (lo hiv:aN) (z:jk) (lt ld:List jk) (i:Nat) (v:aN) (x x':aG) (h:Qg B b2 b3 so sn sc at_ lo hiv z lt ld i v x) (hb:aJ x.heap.size x x'):Qg B b2 b3 so sn sc at_ lo hiv z lt ld i v x':=by
 by_cases hi:i<15
 ·rcases (by omega:i=0\/i=1\/i=2\/i=3\/i=4\/i=5\/i=6\/i=7\/i=8\/i=9\/i=10\/i=11\/i=12\/i=13\/i=14) with rfl|rfl|rfl|rfl|rfl|rfl|rfl|rfl|rfl|rfl|rfl|rfl|rfl|rfl|rfl
  ·obtain⟨g,h1,h2,h3⟩:=h;exact⟨g,h1,h2,h3.on hb⟩
  ·exact h
  ·exact h
  ·exact h
  ·exact h
  ·exact dI h hb
  ·exact h
  ·exact dI h hb
  ·exact dI h hb
  ·exact h
  ·exact h
  ·exact h
  ·exact h
  ·exact dI h hb
  ·exact h
 ·unfold Qg
  split <;> first | omega | trivial
theorem TR (Q:Exit->Act->aG->Prop) (W:aG) (b2 b3:Nat) (me:Int) (y1 y2 y3 y5:aN) (so:Option aS) (sn sc at_:Nat) (l:List jk) (z:jk) (a0 a3 a4 a5 a6 a7 a8 aE b9 bJ bQ c7 c8 c9 cA cC cD cF cG cH cI cJ cL cM cN cP cQ cR cS cT cU cV cW cX cY d1 d3 d4 d5 d7 d9 dA dC dE dS dT e9 eA eB eC eE eI eJ eK eL eM eN eQ eS eV eW f0 f7 f8 f9 fL fN fP fR fS fW fX fY g0 g6 g9 gE gO gR gS hC hG hH hJ hL hM hO hS hT hU hW hX hY hZ j8 j9 jV k6 k7 k8 k9 kA kB kO kV kX l0 lA lB i0 i3 i4:aN)
  (h2:dK W b2 #[aK aL me,y1,y2,y3,L so sn sc,y5] 30) (hx:∀ x,aJ W.heap.size W x->∀ j u,(jr z)[j]?=X u->x.cell? ((⟨b3,0,U⟩:aS).add j)=X u) (hs:mh W (L so sn sc) l) (hat:at_<=l.length) (hlen:l.length<=900)
  (hQ:∀ (x:aG) (i5 i6 i7 i8 i9 iF iS j0 j2 j3 j4 j5 j6 T j7:aN),dK x b2 #[aK aL me,y1,y2,y3,T,y5] 30->jH x W.heap.size T (l.take at_++[z]++l.drop at_)->(∀ B,B<=b2->aJ B W x)->(∀ c cs t,c≠b2->dK W c cs t->dK x c cs t)->(∀ k,k<W.heap.size->k≠b2->x.heap[k]?=W.heap[k]?)->Q .normal ⟨(a0::a3::V (X ⟨b2,0,U⟩)::V (X ⟨b3,0,U⟩)::a4::a5::a6::aK aL (at_:Int)::a7::a8::aE::b9::bJ::bQ::c7::c8::c9::cA::cC::cD::cF::cG::cH::cI::cJ::cL::cM::cN::cP::cQ::cR::cS::cT::cU::cV::cW::cX::cY::d1::d3::d4::d5::d7::d9::dA::dC::dE::dS::dT::e9::eA::eB::eC::eE::eI::eJ::eK::eL::eM::eN::eQ::eS::eV::eW::f0::f7::f8::f9::fL::fN::fP::fR::fS::fW::fX::fY::g0::g6::g9::gE::gO::gR::gS::hC::hG::hH::hJ::hL::hM::hO::hS::hT::hU::hW::hX::hY::hZ::i5::i6::i7::i8::i9::iF::iS::j0::j2::j3::j4::j5::j6::T::j7::i0::i3::i4::[]).toArray,[]⟩ x) :
  Code.wp O adF Q ⟨(a0::a3::V (X ⟨b2,0,U⟩)::V (X ⟨b3,0,U⟩)::a4::a5::a6::aK aL (at_:Int)::a7::a8::aE::b9::bJ::bQ::c7::c8::c9::cA::cC::cD::cF::cG::cH::cI::cJ::cL::cM::cN::cP::cQ::cR::cS::cT::cU::cV::cW::cX::cY::d1::d3::d4::d5::d7::d9::dA::dC::dE::dS::dT::e9::eA::eB::eC::eE::eI::eJ::eK::eL::eM::eN::eQ::eS::eV::eW::f0::f7::f8::f9::fL::fN::fP::fR::fS::fW::fX::fY::g0::g6::g9::gE::gO::gR::gS::hC::hG::hH::hJ::hL::hM::hO::hS::hT::hU::hW::hX::hY::hZ::j8::j9::jV::k6::k7::k8::k9::kA::kB::kO::kV::kX::l0::lA::lB::i0::i3::i4::[]).toArray,[]⟩ W:=by
 have HQ:=aj hQ;have H2:=aj h2;have LX:=aj hx;obtain⟨lo,E5,xJ⟩:=wW mM hs at_ (by omega);obtain⟨hiv,E8,za⟩:=qB mM hs (at_) hat;have LT:=aj (show (l.take at_).length<=1000 by rw [aH]; omega);have Wz:=aj (show (l.take at_).length<=900 by rw [aH]; omega);have LD:=aj (show (l.drop (at_)).length<=1000 by rw [aT]; omega);generalize l.take at_=lt at *;generalize l.drop (at_)=ld at *;have SL:=aj E5;have SH:=aj E8;have RL:=aj xJ;have RH:=aj za;clear hQ h2 hx hs E5 E8 xJ za hat hlen;have jW:=Xc W.heap.size b2 b3 so sn sc at_ lo hiv z lt ld;unfold adF
 conv=>arg 2; whnf
 have nd:∀ j,(j<97\/112<=j)->∀ i,i<15->(fun i=>97+i) i≠j:=by
  intro j hj i hi h;simp only at h;omega
 refine Rg.gU 16 15 (fun i=>97+i) (fun i=>if i=0 then 5 else if i=5 then 8 else if i=7 then 8 else if i=8 then 13 else 15) (Qg W.heap.size b2 b3 so sn sc at_ lo hiv z lt ld) (by kernel_rfl) (by kernel_rfl) rfl (by decide) (fun i j _ _ h=>by have h2:97+i=97+j:=h; omega) (fun i hi=>by show 97+i<115; omega) ?_ (fun _=>Rg.kL 1 (by kernel_rfl)) (fun kk o h1 h2=>by omega) ?_
 ·intro i o hi ho a x D hnd hc hD hb seen K hK;clear HQ;rcases (by omega:i=0\/i=1\/i=2\/i=3\/i=4\/i=5\/i=6\/i=7\/i=8\/i=9\/i=10\/i=11\/i=12\/i=13\/i=14) with rfl|rfl|rfl|rfl|rfl|rfl|rfl|rfl|rfl|rfl|rfl|rfl|rfl|rfl|rfl
  ·cases ho;exact aA rfl rfl (bS a.eval _ 27 0 #[] rfl rfl (by simp [go_sem])) (hK (L (X ⟨x.heap.size,0,U⟩) 0 0) (x.alloc (aF #[] 67)) ⟨x.heap.size,rfl,hb.size,dQ x #[] 67⟩ ((J _ _).alloc hb.size _) fun j u _ _ _ _ _ h=>jW j u _ _ h ((J _ _).alloc (aC _) _))
  ·cases ho;have e2:a.eval (Y 2)=V (X ⟨b2,0,U⟩):=seen.kp 2 _ (nd 2 (by omega)) rfl;exact aA rfl rfl (bM a.eval _ 30 (Y 2) 4 rfl (by rw [e2]; simp [go_sem])) (hK _ _ rfl (J _ _) fun _ _ _ _ _ _ _ h=>h)
  ·cases ho;have e98:a.eval (Y 98)=V (X ⟨b2,4,U⟩):=seen.at_ ⟨1,.data⟩ (by simp) rfl (ay (by decide));have y:=(H2.out.on hb).cell 4;simp only [ah,ak,au] at y;exact aA rfl rfl (bN a.eval _ 27 (Y 98) rfl (by rw [e98]; simp [go_sem,y])) (hK _ _ rfl (J _ _) fun _ _ _ _ _ _ _ h=>h)
  ·cases ho;have e7:a.eval (Y 7)=aK aL (at_:Int):=seen.kp 7 _ (nd 7 (by omega)) rfl;exact aA rfl rfl (bR a.eval _ (Y 7) rfl x) (hK _ _ e7 (J _ _) fun _ _ _ _ _ _ _ h=>h)
  ·cases ho;have e99:a.eval (Y 99)=L so sn sc:=seen.at_ ⟨2,.data⟩ (by simp) rfl (ay (by decide));have e100:a.eval (Y 100)=aK aL (at_:Int):=seen.at_ ⟨3,.data⟩ (by simp) rfl (ay (by decide));exact aA rfl rfl (bU a.eval _ 27 (Y 99) U (X (Y 100)) U rfl (by show (aM 27 (a.eval (Y 99)) U (X (a.eval (Y 100))) U).run O x=.ok lo x; rw [e99,e100]; exact SL.out x)) (hK _ _ rfl (J _ _) fun _ _ _ _ _ _ _ h=>h)
  ·cases ho;obtain⟨g,q0,hBg,hbx⟩:=seen.at_ ⟨0,.data⟩ (by simp) rfl (aP rfl);have q0:a.eval (Y 97)=L (X ⟨g,0,U⟩) 0 0:=q0;have e101:a.eval (Y 101)=lo:=seen.at_ ⟨4,.data⟩ (by simp) rfl (ay (by decide));obtain⟨v',x',r,o',gr⟩:=jN mM W.heap.size hbx hBg (RL.out.on hb) LT.out 27;exact aA rfl rfl (bO a.eval _ (Y 97) (Y 101) 27 rfl q0 e101 r) (hK v' x' o' (gr.mono hb.size) fun j u _ _ _ _ _ h=>jW j u _ _ h gr)
  ·cases ho;have e3:a.eval (Y 3)=V (X ⟨b3,0,U⟩):=seen.kp 3 _ (nd 3 (by omega)) rfl;exact aA rfl rfl (bN a.eval _ 67 (Y 3) rfl (by rw [e3]; exact adB x _ z (LX.out x hb))) (hK _ _ rfl (J _ _) fun _ _ _ _ _ _ _ h=>h)
  ·cases ho;have e103:a.eval (Y 103)=qO z:=seen.at_ ⟨6,.data⟩ (by simp) rfl (ay (by decide));have hl:=jC mM x [z] 1 rfl (by simp) (jr z).toArray (by simp [flat,EN]);have hl:jH (x.alloc (aF (jr z).toArray 67)) x.heap.size (L (X ⟨x.heap.size,0,U⟩) 1 1) [z]:=hl;exact aA rfl rfl (bS a.eval _ 27 1 #[(0,Y 103)] rfl (ps:=#[(0,qO z)]) (by simp [e103]) (by simp [go_sem])) (hK (L (X ⟨x.heap.size,0,U⟩) 1 1) (x.alloc (aF (jr z).toArray 67)) (dM hl hb.size) ((J _ _).alloc hb.size _) fun j u _ _ _ _ _ h=>jW j u _ _ h ((J _ _).alloc (aC _) _))
  ·cases ho;have o102:jH x W.heap.size (a.eval (Y 102)) (lt):=seen.at_ ⟨5,.data⟩ (by simp) rfl (aP rfl);have o104:jH x W.heap.size (a.eval (Y 104)) ([z]):=seen.at_ ⟨7,.data⟩ (by simp) rfl (aP rfl);have ox:=Row.dJ o104;obtain⟨v',x',r,o',gr⟩:=gZ mM W.heap.size o102 ox (by have:=LT.out; omega) (by simp) hb.size 27;exact aA rfl rfl (bO a.eval _ (Y 102) (Y 104) 27 rfl rfl rfl r) (hK v' x' o' ((J _ x).grown gr hb.size fun j hj=>(o102.lt j hj).1) fun j u hj dj nl nx ni h=>by
    rcases (by omega:j=0\/j=1\/j=2\/j=3\/j=4\/j=5\/j=6\/j=7\/j=8\/j=9\/j=10\/j=11\/j=12\/j=13\/j=14) with rfl|rfl|rfl|rfl|rfl|rfl|rfl|rfl|rfl|rfl|rfl|rfl|rfl|rfl|rfl
    ·exact absurd rfl (fun _:(0:Nat)=0=>nl (hc 5 _ (hD ⟨5,.data⟩ (by simp) rfl) rfl ⟨0,.data⟩ (by simp) rfl |> fun _=>hD ⟨5,.data⟩ (by simp) rfl))
    ·exact h
    ·exact h
    ·exact h
    ·exact h
    ·exact absurd rfl (fun _:(0:Nat)=0=>nx rfl)
    ·exact h
    ·exact absurd rfl (fun _:(0:Nat)=0=>nx rfl)
    ·exact absurd rfl (fun _:(0:Nat)=0=>ni rfl)
    ·exact h
    ·exact h
    ·exact h
    ·exact h
    ·exact absurd rfl (fun _:(0:Nat)=0=>hnd (hc 13 _ dj rfl ⟨8,.data⟩ (by simp) rfl))
    ·exact h)
  ·cases ho;have e2:a.eval (Y 2)=V (X ⟨b2,0,U⟩):=seen.kp 2 _ (nd 2 (by omega)) rfl;exact aA rfl rfl (bM a.eval _ 30 (Y 2) 4 rfl (by rw [e2]; simp [go_sem])) (hK _ _ rfl (J _ _) fun _ _ _ _ _ _ _ h=>h)
  ·cases ho;have e106:a.eval (Y 106)=V (X ⟨b2,4,U⟩):=seen.at_ ⟨9,.data⟩ (by simp) rfl (ay (by decide));have y:=(H2.out.on hb).cell 4;simp only [ah,ak,au] at y;exact aA rfl rfl (bN a.eval _ 27 (Y 106) rfl (by rw [e106]; simp [go_sem,y])) (hK _ _ rfl (J _ _) fun _ _ _ _ _ _ _ h=>h)
  ·cases ho;have e7:a.eval (Y 7)=aK aL (at_:Int):=seen.kp 7 _ (nd 7 (by omega)) rfl;exact aA rfl rfl (bR a.eval _ (Y 7) rfl x) (hK _ _ e7 (J _ _) fun _ _ _ _ _ _ _ h=>h)
  ·cases ho;have e107:a.eval (Y 107)=L so sn sc:=seen.at_ ⟨10,.data⟩ (by simp) rfl (ay (by decide));have e108:a.eval (Y 108)=aK aL (at_:Int):=seen.at_ ⟨11,.data⟩ (by simp) rfl (ay (by decide));exact aA rfl rfl (bU a.eval _ 27 (Y 107) (X (Y 108)) U U rfl (by show (aM 27 (a.eval (Y 107)) (X (a.eval (Y 108))) U U).run O x=.ok hiv x; rw [e107,e108]; exact SH.out x)) (hK _ _ rfl (J _ _) fun _ _ _ _ _ _ _ h=>h)
  ·cases ho;have o105:jH x W.heap.size (a.eval (Y 105)) ((lt++[z])):=seen.at_ ⟨8,.data⟩ (by simp) rfl (aP rfl);have e109:a.eval (Y 109)=hiv:=seen.at_ ⟨12,.data⟩ (by simp) rfl (ay (by decide));have ox:mh x (a.eval (Y 109)) ld:=by rw [e109]; exact RH.out.on hb
   obtain⟨v',x',r,o',gr⟩:=gZ mM W.heap.size o105 ox (by have:=Wz.out; rw [aQ,aO]; omega) LD.out hb.size 27;exact aA rfl rfl (bO a.eval _ (Y 105) (Y 109) 27 rfl rfl rfl r) (hK v' x' o' ((J _ x).grown gr hb.size fun j hj=>(o105.lt j hj).1) fun j u hj dj nl nx ni h=>by
    rcases (by omega:j=0\/j=1\/j=2\/j=3\/j=4\/j=5\/j=6\/j=7\/j=8\/j=9\/j=10\/j=11\/j=12\/j=13\/j=14) with rfl|rfl|rfl|rfl|rfl|rfl|rfl|rfl|rfl|rfl|rfl|rfl|rfl|rfl|rfl
    ·exact absurd rfl (fun _:(0:Nat)=0=>nl (hc 8 _ (hD ⟨8,.data⟩ (by simp) rfl) rfl ⟨5,.data⟩ (by simp) rfl))
    ·exact h
    ·exact h
    ·exact h
    ·exact h
    ·exact absurd rfl (fun _:(0:Nat)=0=>nl (hD ⟨8,.data⟩ (by simp) rfl))
    ·exact h
    ·exact absurd rfl (fun _:(0:Nat)=0=>nl (hD ⟨8,.data⟩ (by simp) rfl))
    ·exact absurd rfl (fun _:(0:Nat)=0=>nx rfl)
    ·exact h
    ·exact h
    ·exact h
    ·exact h
    ·exact absurd rfl (fun _:(0:Nat)=0=>ni rfl)
    ·exact h)
  ·cases ho;have e2:a.eval (Y 2)=V (X ⟨b2,0,U⟩):=seen.kp 2 _ (nd 2 (by omega)) rfl;exact aA rfl rfl (bM a.eval _ 30 (Y 2) 4 rfl (by rw [e2]; simp [go_sem])) (hK _ _ rfl (J _ _) fun _ _ _ _ _ _ _ h=>h)
 ·intro a w' df sz kp ⟨vs,hv⟩ hb;have gr:a.tmps[110]?=X (vs 13):=(hv 13 (by omega)).1;have gp:a.tmps[111]?=X (V (X ⟨b2,4,U⟩)):=by
   have h:vs 14=V (X ⟨b2,4,U⟩):=(hv 14 (by omega)).2 (by decide);rw [<- h];exact (hv 14 (by omega)).1
  have oR:jH w' W.heap.size (vs 13) (lt++[z]++ld):=(hv 13 (by omega)).2 (by decide);generalize vs 13=xR at *;obtain⟨ca,cp,eR⟩:=(Row.dJ oR).len;have hbx:=H2.out.on hb;have hblt:=H2.out.lt;have c5:=hbx.cell 4;have f5:=hbx.fr 4;simp only [ah,ak,au] at c5;have hb1:=eu (k:=4) hbx xR;show bV _ _ _ 1 15 a w';simp only [bV];refine Rg.gu 27 (Y 111) (Y 110) rfl rfl rfl rfl (bW gp) (bW gr) (w':=w'.setCell ⟨b2,4,U⟩ xR) (by rw [eR]; simp [go_sem,c5,f5]) ?_;have rJ:∀ j,(j<97\/112<=j)->a.tmps[j]?=(a0::a3::V (X ⟨b2,0,U⟩)::V (X ⟨b3,0,U⟩)::a4::a5::a6::aK aL (at_:Int)::a7::a8::aE::b9::bJ::bQ::c7::c8::c9::cA::cC::cD::cF::cG::cH::cI::cJ::cL::cM::cN::cP::cQ::cR::cS::cT::cU::cV::cW::cX::cY::d1::d3::d4::d5::d7::d9::dA::dC::dE::dS::dT::e9::eA::eB::eC::eE::eI::eJ::eK::eL::eM::eN::eQ::eS::eV::eW::f0::f7::f8::f9::fL::fN::fP::fR::fS::fW::fX::fY::g0::g6::g9::gE::gO::gR::gS::hC::hG::hH::hJ::hL::hM::hO::hS::hT::hU::hW::hX::hY::hZ::j8::j9::jV::k6::k7::k8::k9::kA::kB::kO::kV::kX::l0::lA::lB::i0::i3::i4::[])[j]?:=fun j hj=>(kp j (nd j hj)).trans ah;obtain⟨mid,hmid,rfl⟩:=Rg.gM 97 15 df sz (by simp) rJ
  match mid,hmid with
  | [i5,i6,i7,i8,i9,iF,iS,j0,j2,j3,j4,j5,j6,T,j7],_ =>
   have e1:X T=X xR:=gr;obtain rfl:=Option.some.inj e1;refine HQ.out _ i5 i6 i7 i8 i9 iF iS j0 j2 j3 j4 j5 j6 T j7 ?_ ?_ ?_ ?_ ?_
   ·simpa using hb1
   ·exact eZ oR b2 4 _ hblt
   ·exact fun B hB=>(hb.mono (bG (aR hB hblt))).setCell hB _
   ·intro c cs t hc hbc;exact (aB _ _ _ _ hc).trans (hbc.on hb)
   ·intro k hk hne;exact (aB _ _ _ _ hne).trans (hb.block k hk)
def Jb (B b2 _:Nat) (so:Option aS) (sn sc at_:Nat) (lo hiv:aN) (z:ny) (lt ld:List ny) (i:Nat) (v:aN) (x:aG):Prop :=
 match i with
 | 0=>∃ g,v=L (X ⟨g,0,U⟩) 0 0/\B<=g/\dK x g #[] 88
 | 1=>v=V (X ⟨b2,5,U⟩)
 | 2=>v=L so sn sc
 | 3=>v=aK aL (at_:Int)
 | 4=>v=lo
 | 5=>nM x B v lt
 | 6=>v=nC (z.1,z.2.1)
 | 7=>v=dX z.2.2
 | 8=>v=EM z
 | 9=>nM x B v [z]
 | 10=>nM x B v (lt++[z])
 | 11=>v=V (X ⟨b2,5,U⟩)
 | 12=>v=L so sn sc
 | 13=>v=aK aL (at_:Int)
 | 14=>v=hiv
 | 15=>nM x B v (lt++[z]++ld)
 | 16=>v=V (X ⟨b2,5,U⟩)
 | _=>True
noncomputable def Xd:Code:=((Tryz.f17.body.bind (eO 6)).getD .skip)
theorem TS (B b2 b3:Nat) (so:Option aS) (sn sc at_:Nat) (lo hiv:aN) (z:ny) (lt ld:List ny) (i:Nat) (v:aN) (x x':aG) (h:Jb B b2 b3 so sn sc at_ lo hiv z lt ld i v x) (hb:aJ x.heap.size x x'):Jb B b2 b3 so sn sc at_ lo hiv z lt ld i v x':=by
 by_cases hi:i<17
 ·rcases (by omega:i=0\/i=1\/i=2\/i=3\/i=4\/i=5\/i=6\/i=7\/i=8\/i=9\/i=10\/i=11\/i=12\/i=13\/i=14\/i=15\/i=16) with rfl|rfl|rfl|rfl|rfl|rfl|rfl|rfl|rfl|rfl|rfl|rfl|rfl|rfl|rfl|rfl|rfl
  ·obtain⟨g,h1,h2,h3⟩:=h;exact⟨g,h1,h2,h3.on hb⟩
  ·exact h
  ·exact h
  ·exact h
  ·exact h
  ·exact dI h hb
  ·exact h
  ·exact h
  ·exact h
  ·exact dI h hb
  ·exact dI h hb
  ·exact h
  ·exact h
  ·exact h
  ·exact h
  ·exact dI h hb
  ·exact h
 ·unfold Jb
  split <;> first | omega | trivial
theorem adG (Q:Exit->Act->aG->Prop) (W:aG) (b2 b3:Nat) (me:Int) (y1 y2 y3 y4:aN) (so:Option aS) (sn sc at_:Nat) (l:List ny) (z:ny) (a0 a3 a4 a5 a6 a7 a8 aE b9 bJ bQ c7 c8 c9 cA cC cD cF cG cH cI cJ cL cM cN cP cQ cR cS cT cU cV cW cX cY d1 d3 d4 d5 d7 d9 dA dC hZ i0 i3 i4 i5 i6 i7 i8 i9 iF iS j0 j2 j3 j4 j5 j6 dE dS dT e7 e9 eA eB eC eE eI eJ eK eL eM eN eQ eS eV eW f0 f7 f8 f9 fL fN fP fR fS fW fX fY g0 g6 g9 gE:aN)
  (h2:dK W b2 #[aK aL me,y1,y2,y3,y4,L so sn sc] 30) (hx:∀ x,aJ W.heap.size W x->∀ j u,(kR (z.1,z.2.1))[j]?=X u->x.cell? ((⟨b3,0,U⟩:aS).add j)=X u) (hs:EP W (L so sn sc) l) (hat:at_<=l.length) (hlen:l.length<=900)
  (hQ:∀ (x:aG) (gO gR gS hC hG hH hJ hL hM hO hS hT hU hW hX T hY:aN),dK x b2 #[aK aL me,y1,y2,y3,y4,T] 30->nM x W.heap.size T (l.take at_++[z]++l.drop at_)->(∀ B,B<=b2->aJ B W x)->(∀ c cs t,c≠b2->dK W c cs t->dK x c cs t)->(∀ k,k<W.heap.size->k≠b2->x.heap[k]?=W.heap[k]?)->Q .normal ⟨(a0::a3::dX z.2.2::V (X ⟨b2,0,U⟩)::V (X ⟨b3,0,U⟩)::a4::a5::a6::aK aL (at_:Int)::a7::a8::aE::b9::bJ::bQ::c7::c8::c9::cA::cC::cD::cF::cG::cH::cI::cJ::cL::cM::cN::cP::cQ::cR::cS::cT::cU::cV::cW::cX::cY::d1::d3::d4::d5::d7::d9::dA::dC::gO::gR::gS::hC::hG::hH::hJ::hL::hM::hO::hS::hT::hU::hW::hX::T::hY::dE::dS::dT::e7::e9::eA::eB::eC::eE::eI::eJ::eK::eL::eM::eN::eQ::eS::eV::eW::f0::f7::f8::f9::fL::fN::fP::fR::fS::fW::fX::fY::g0::g6::g9::gE::[]).toArray,[]⟩ x) :
  Code.wp O Xd Q ⟨(a0::a3::dX z.2.2::V (X ⟨b2,0,U⟩)::V (X ⟨b3,0,U⟩)::a4::a5::a6::aK aL (at_:Int)::a7::a8::aE::b9::bJ::bQ::c7::c8::c9::cA::cC::cD::cF::cG::cH::cI::cJ::cL::cM::cN::cP::cQ::cR::cS::cT::cU::cV::cW::cX::cY::d1::d3::d4::d5::d7::d9::dA::dC::hZ::i0::i3::i4::i5::i6::i7::i8::i9::iF::iS::j0::j2::j3::j4::j5::j6::dE::dS::dT::e7::e9::eA::eB::eC::eE::eI::eJ::eK::eL::eM::eN::eQ::eS::eV::eW::f0::f7::f8::f9::fL::fN::fP::fR::fS::fW::fX::fY::g0::g6::g9::gE::[]).toArray,[]⟩ W:=by
 have HQ:=aj hQ;have H2:=aj h2;have LX:=aj hx;obtain⟨lo,E5,xJ⟩:=wW okW hs at_ (by omega);obtain⟨hiv,E8,za⟩:=qB okW hs (at_) hat;have LT:=aj (show (l.take at_).length<=1000 by rw [aH]; omega);have Wz:=aj (show (l.take at_).length<=900 by rw [aH]; omega);have LD:=aj (show (l.drop (at_)).length<=1000 by rw [aT]; omega);generalize l.take at_=lt at *;generalize l.drop (at_)=ld at *;have SL:=aj E5;have SH:=aj E8;have RL:=aj xJ;have RH:=aj za;clear hQ h2 hx hs E5 E8 xJ za hat hlen;have jW:=TS W.heap.size b2 b3 so sn sc at_ lo hiv z lt ld;unfold Xd
 conv=>arg 2; whnf
 have nd:∀ j,(j<47\/64<=j)->∀ i,i<17->(fun i=>47+i) i≠j:=by
  intro j hj i hi h;simp only at h;omega
 refine Rg.gU 18 17 (fun i=>47+i) (fun i=>if i=0 then 5 else if i=5 then 10 else if i=9 then 10 else if i=10 then 15 else 17) (Jb W.heap.size b2 b3 so sn sc at_ lo hiv z lt ld) (by kernel_rfl) (by kernel_rfl) rfl (by decide) (fun i j _ _ h=>by have h2:47+i=47+j:=h; omega) (fun i hi=>by show 47+i<99; omega) ?_ (fun _=>Rg.kL 1 (by kernel_rfl)) (fun kk o h1 h2=>by omega) ?_
 ·intro i o hi ho a x D hnd hc hD hb seen K hK;clear HQ;rcases (by omega:i=0\/i=1\/i=2\/i=3\/i=4\/i=5\/i=6\/i=7\/i=8\/i=9\/i=10\/i=11\/i=12\/i=13\/i=14\/i=15\/i=16) with rfl|rfl|rfl|rfl|rfl|rfl|rfl|rfl|rfl|rfl|rfl|rfl|rfl|rfl|rfl|rfl|rfl
  ·cases ho;exact aA rfl rfl (bS a.eval _ 28 0 #[] rfl rfl (by simp [go_sem])) (hK (L (X ⟨x.heap.size,0,U⟩) 0 0) (x.alloc (aF #[] 88)) ⟨x.heap.size,rfl,hb.size,dQ x #[] 88⟩ ((J _ _).alloc hb.size _) fun j u _ _ _ _ _ h=>jW j u _ _ h ((J _ _).alloc (aC _) _))
  ·cases ho;have e3:a.eval (Y 3)=V (X ⟨b2,0,U⟩):=seen.kp 3 _ (nd 3 (by omega)) rfl;exact aA rfl rfl (bM a.eval _ 30 (Y 3) 5 rfl (by rw [e3]; simp [go_sem])) (hK _ _ rfl (J _ _) fun _ _ _ _ _ _ _ h=>h)
  ·cases ho;have e48:a.eval (Y 48)=V (X ⟨b2,5,U⟩):=seen.at_ ⟨1,.data⟩ (by simp) rfl (ay (by decide));have y:=(H2.out.on hb).cell 5;simp only [ah,ak,au] at y;exact aA rfl rfl (bN a.eval _ 28 (Y 48) rfl (by rw [e48]; simp [go_sem,y])) (hK _ _ rfl (J _ _) fun _ _ _ _ _ _ _ h=>h)
  ·cases ho;have e8:a.eval (Y 8)=aK aL (at_:Int):=seen.kp 8 _ (nd 8 (by omega)) rfl;exact aA rfl rfl (bR a.eval _ (Y 8) rfl x) (hK _ _ e8 (J _ _) fun _ _ _ _ _ _ _ h=>h)
  ·cases ho;have e49:a.eval (Y 49)=L so sn sc:=seen.at_ ⟨2,.data⟩ (by simp) rfl (ay (by decide));have e50:a.eval (Y 50)=aK aL (at_:Int):=seen.at_ ⟨3,.data⟩ (by simp) rfl (ay (by decide));exact aA rfl rfl (bU a.eval _ 28 (Y 49) U (X (Y 50)) U rfl (by show (aM 28 (a.eval (Y 49)) U (X (a.eval (Y 50))) U).run O x=.ok lo x; rw [e49,e50]; exact SL.out x)) (hK _ _ rfl (J _ _) fun _ _ _ _ _ _ _ h=>h)
  ·cases ho;obtain⟨g,q0,hBg,hbx⟩:=seen.at_ ⟨0,.data⟩ (by simp) rfl (aP rfl);have q0:a.eval (Y 47)=L (X ⟨g,0,U⟩) 0 0:=q0;have e51:a.eval (Y 51)=lo:=seen.at_ ⟨4,.data⟩ (by simp) rfl (ay (by decide));obtain⟨v',x',r,o',gr⟩:=jN okW W.heap.size hbx hBg (RL.out.on hb) LT.out 28;exact aA rfl rfl (bO a.eval _ (Y 47) (Y 51) 28 rfl q0 e51 r) (hK v' x' o' (gr.mono hb.size) fun j u _ _ _ _ _ h=>jW j u _ _ h gr)
  ·cases ho;have e4:a.eval (Y 4)=V (X ⟨b3,0,U⟩):=seen.kp 4 _ (nd 4 (by omega)) rfl;exact aA rfl rfl (bN a.eval _ 23 (Y 4) rfl (by rw [e4]; exact Gc x _ (z.1,z.2.1) (LX.out x hb))) (hK _ _ rfl (J _ _) fun _ _ _ _ _ _ _ h=>h)
  ·cases ho;have e2:a.eval (Y 2)=dX z.2.2:=seen.kp 2 _ (nd 2 (by omega)) rfl;exact aA rfl rfl (bR a.eval _ (Y 2) rfl x) (hK _ _ e2 (J _ _) fun _ _ _ _ _ _ _ h=>h)
  ·cases ho;have e53:a.eval (Y 53)=nC (z.1,z.2.1):=seen.at_ ⟨6,.data⟩ (by simp) rfl (ay (by decide));have e54:a.eval (Y 54)=dX z.2.2:=seen.at_ ⟨7,.data⟩ (by simp) rfl (ay (by decide));exact aA rfl rfl (Rg.jg a.eval _ 88 #[(0,Y 53),(1,Y 54)] rfl (ps:=#[(0,nC (z.1,z.2.1)),(1,dX z.2.2)]) (by simp only [List.map_toArray,List.map_cons,List.map_nil,e53,e54]) (by simp [go_sem])) (hK _ _ rfl (J _ _) fun _ _ _ _ _ _ _ h=>h)
  ·cases ho;have e55:a.eval (Y 55)=EM z:=seen.at_ ⟨8,.data⟩ (by simp) rfl (ay (by decide));have hl:=jC okW x [z] 1 rfl (by simp) (lH z).toArray (by simp [flat,EW]);have hl:nM (x.alloc (aF (lH z).toArray 88)) x.heap.size (L (X ⟨x.heap.size,0,U⟩) 1 1) [z]:=hl;exact aA rfl rfl (bS a.eval _ 28 1 #[(0,Y 55)] rfl (ps:=#[(0,EM z)]) (by simp [e55]) (by simp [go_sem])) (hK (L (X ⟨x.heap.size,0,U⟩) 1 1) (x.alloc (aF (lH z).toArray 88)) (dM hl hb.size) ((J _ _).alloc hb.size _) fun j u _ _ _ _ _ h=>jW j u _ _ h ((J _ _).alloc (aC _) _))
  ·cases ho;have o52:nM x W.heap.size (a.eval (Y 52)) (lt):=seen.at_ ⟨5,.data⟩ (by simp) rfl (aP rfl);have o56:nM x W.heap.size (a.eval (Y 56)) ([z]):=seen.at_ ⟨9,.data⟩ (by simp) rfl (aP rfl);have ox:=Row.dJ o56;obtain⟨v',x',r,o',gr⟩:=gZ okW W.heap.size o52 ox (by have:=LT.out; omega) (by simp) hb.size 28;exact aA rfl rfl (bO a.eval _ (Y 52) (Y 56) 28 rfl rfl rfl r) (hK v' x' o' ((J _ x).grown gr hb.size fun j hj=>(o52.lt j hj).1) fun j u hj dj nl nx ni h=>by
    rcases (by omega:j=0\/j=1\/j=2\/j=3\/j=4\/j=5\/j=6\/j=7\/j=8\/j=9\/j=10\/j=11\/j=12\/j=13\/j=14\/j=15\/j=16) with rfl|rfl|rfl|rfl|rfl|rfl|rfl|rfl|rfl|rfl|rfl|rfl|rfl|rfl|rfl|rfl|rfl
    ·exact absurd rfl (fun _:(0:Nat)=0=>nl (hc 5 _ (hD ⟨5,.data⟩ (by simp) rfl) rfl ⟨0,.data⟩ (by simp) rfl |> fun _=>hD ⟨5,.data⟩ (by simp) rfl))
    ·exact h
    ·exact h
    ·exact h
    ·exact h
    ·exact absurd rfl (fun _:(0:Nat)=0=>nx rfl)
    ·exact h
    ·exact h
    ·exact h
    ·exact absurd rfl (fun _:(0:Nat)=0=>nx rfl)
    ·exact absurd rfl (fun _:(0:Nat)=0=>ni rfl)
    ·exact h
    ·exact h
    ·exact h
    ·exact h
    ·exact absurd rfl (fun _:(0:Nat)=0=>hnd (hc 15 _ dj rfl ⟨10,.data⟩ (by simp) rfl))
    ·exact h)
  ·cases ho;have e3:a.eval (Y 3)=V (X ⟨b2,0,U⟩):=seen.kp 3 _ (nd 3 (by omega)) rfl;exact aA rfl rfl (bM a.eval _ 30 (Y 3) 5 rfl (by rw [e3]; simp [go_sem])) (hK _ _ rfl (J _ _) fun _ _ _ _ _ _ _ h=>h)
  ·cases ho;have e58:a.eval (Y 58)=V (X ⟨b2,5,U⟩):=seen.at_ ⟨11,.data⟩ (by simp) rfl (ay (by decide));have y:=(H2.out.on hb).cell 5;simp only [ah,ak,au] at y;exact aA rfl rfl (bN a.eval _ 28 (Y 58) rfl (by rw [e58]; simp [go_sem,y])) (hK _ _ rfl (J _ _) fun _ _ _ _ _ _ _ h=>h)
  ·cases ho;have e8:a.eval (Y 8)=aK aL (at_:Int):=seen.kp 8 _ (nd 8 (by omega)) rfl;exact aA rfl rfl (bR a.eval _ (Y 8) rfl x) (hK _ _ e8 (J _ _) fun _ _ _ _ _ _ _ h=>h)
  ·cases ho;have e59:a.eval (Y 59)=L so sn sc:=seen.at_ ⟨12,.data⟩ (by simp) rfl (ay (by decide));have e60:a.eval (Y 60)=aK aL (at_:Int):=seen.at_ ⟨13,.data⟩ (by simp) rfl (ay (by decide));exact aA rfl rfl (bU a.eval _ 28 (Y 59) (X (Y 60)) U U rfl (by show (aM 28 (a.eval (Y 59)) (X (a.eval (Y 60))) U U).run O x=.ok hiv x; rw [e59,e60]; exact SH.out x)) (hK _ _ rfl (J _ _) fun _ _ _ _ _ _ _ h=>h)
  ·cases ho;have o57:nM x W.heap.size (a.eval (Y 57)) ((lt++[z])):=seen.at_ ⟨10,.data⟩ (by simp) rfl (aP rfl);have e61:a.eval (Y 61)=hiv:=seen.at_ ⟨14,.data⟩ (by simp) rfl (ay (by decide));have ox:EP x (a.eval (Y 61)) ld:=by rw [e61]; exact RH.out.on hb
   obtain⟨v',x',r,o',gr⟩:=gZ okW W.heap.size o57 ox (by have:=Wz.out; rw [aQ,aO]; omega) LD.out hb.size 28;exact aA rfl rfl (bO a.eval _ (Y 57) (Y 61) 28 rfl rfl rfl r) (hK v' x' o' ((J _ x).grown gr hb.size fun j hj=>(o57.lt j hj).1) fun j u hj dj nl nx ni h=>by
    rcases (by omega:j=0\/j=1\/j=2\/j=3\/j=4\/j=5\/j=6\/j=7\/j=8\/j=9\/j=10\/j=11\/j=12\/j=13\/j=14\/j=15\/j=16) with rfl|rfl|rfl|rfl|rfl|rfl|rfl|rfl|rfl|rfl|rfl|rfl|rfl|rfl|rfl|rfl|rfl
    ·exact absurd rfl (fun _:(0:Nat)=0=>nl (hc 10 _ (hD ⟨10,.data⟩ (by simp) rfl) rfl ⟨5,.data⟩ (by simp) rfl))
    ·exact h
    ·exact h
    ·exact h
    ·exact h
    ·exact absurd rfl (fun _:(0:Nat)=0=>nl (hD ⟨10,.data⟩ (by simp) rfl))
    ·exact h
    ·exact h
    ·exact h
    ·exact absurd rfl (fun _:(0:Nat)=0=>nl (hD ⟨10,.data⟩ (by simp) rfl))
    ·exact absurd rfl (fun _:(0:Nat)=0=>nx rfl)
    ·exact h
    ·exact h
    ·exact h
    ·exact h
    ·exact absurd rfl (fun _:(0:Nat)=0=>ni rfl)
    ·exact h)
  ·cases ho;have e3:a.eval (Y 3)=V (X ⟨b2,0,U⟩):=seen.kp 3 _ (nd 3 (by omega)) rfl;exact aA rfl rfl (bM a.eval _ 30 (Y 3) 5 rfl (by rw [e3]; simp [go_sem])) (hK _ _ rfl (J _ _) fun _ _ _ _ _ _ _ h=>h)
 ·intro a w' df sz kp ⟨vs,hv⟩ hb;have gr:a.tmps[62]?=X (vs 15):=(hv 15 (by omega)).1;have gp:a.tmps[63]?=X (V (X ⟨b2,5,U⟩)):=by
   have h:vs 16=V (X ⟨b2,5,U⟩):=(hv 16 (by omega)).2 (by decide);rw [<- h];exact (hv 16 (by omega)).1
  have oR:nM w' W.heap.size (vs 15) (lt++[z]++ld):=(hv 15 (by omega)).2 (by decide);generalize vs 15=xR at *;obtain⟨ca,cp,eR⟩:=(Row.dJ oR).len;have hbx:=H2.out.on hb;have hblt:=H2.out.lt;have c5:=hbx.cell 5;have f5:=hbx.fr 5;simp only [ah,ak,au] at c5;have hb1:=eu (k:=5) hbx xR;show bV _ _ _ 1 17 a w';simp only [bV];refine Rg.gu 28 (Y 63) (Y 62) rfl rfl rfl rfl (bW gp) (bW gr) (w':=w'.setCell ⟨b2,5,U⟩ xR) (by rw [eR]; simp [go_sem,c5,f5]) ?_;have rJ:∀ j,(j<47\/64<=j)->a.tmps[j]?=(a0::a3::dX z.2.2::V (X ⟨b2,0,U⟩)::V (X ⟨b3,0,U⟩)::a4::a5::a6::aK aL (at_:Int)::a7::a8::aE::b9::bJ::bQ::c7::c8::c9::cA::cC::cD::cF::cG::cH::cI::cJ::cL::cM::cN::cP::cQ::cR::cS::cT::cU::cV::cW::cX::cY::d1::d3::d4::d5::d7::d9::dA::dC::hZ::i0::i3::i4::i5::i6::i7::i8::i9::iF::iS::j0::j2::j3::j4::j5::j6::dE::dS::dT::e7::e9::eA::eB::eC::eE::eI::eJ::eK::eL::eM::eN::eQ::eS::eV::eW::f0::f7::f8::f9::fL::fN::fP::fR::fS::fW::fX::fY::g0::g6::g9::gE::[])[j]?:=fun j hj=>(kp j (nd j hj)).trans ah;obtain⟨mid,hmid,rfl⟩:=Rg.gM 47 17 df sz (by simp) rJ
  match mid,hmid with
  | [gO,gR,gS,hC,hG,hH,hJ,hL,hM,hO,hS,hT,hU,hW,hX,T,hY],_ =>
   have e1:X T=X xR:=gr;obtain rfl:=Option.some.inj e1;refine HQ.out _ gO gR gS hC hG hH hJ hL hM hO hS hT hU hW hX T hY ?_ ?_ ?_ ?_ ?_
   ·simpa using hb1
   ·exact eZ oR b2 5 _ hblt
   ·exact fun B hB=>(hb.mono (bG (aR hB hblt))).setCell hB _
   ·intro c cs t hc hbc;exact (aB _ _ _ _ hc).trans (hbc.on hb)
   ·intro k hk hne;exact (aB _ _ _ _ hne).trans (hb.block k hk)
end Bk
end Go.Proofs.YtghlpefopidlaaaGreat
