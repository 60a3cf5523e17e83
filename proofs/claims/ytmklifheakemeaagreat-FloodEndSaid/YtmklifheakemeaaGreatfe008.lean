/-
  slices.Clone of rows. Conditions as told.
-/
import Derived.Test.YtmklifheakemeaaGreatfe004
import Derived.Laws.Cover3
import Derived.Test.YtmklifheakemeaaGreatfe006
import Derived.Test.YtmklifheakemeaaGreatfe007
set_option maxRecDepth 100000
set_option maxHeartbeats 64000000
open _root_.Bool renaming true->aQ,false->bn
open _root_.Go renaming World->ak,Value->aI,Calls->bg,Addr->bW,Act->cB
open Go.Builtin renaming append_->aD
open Go.Ending renaming returned->Y
open Go.IntKind renaming i64->aT
open Go.Lib renaming compact->ah,hid->aA,compactUpTo->aF
open Go.Obj renaming cells->aO
open Go.Operand renaming tmp->ay
open Go.Proofs.Tryz renaming prog->J,ntmps140->bD,ntmps141->bF,ntmps142->bG,ntmps143->bH,ntmps123->bI,ntmps32->bK,func140->bL,func141->bM,func142->bP,func143->bR,func123->bS,func32->bX,sortI->bZ,cptI->cu
open Go.Region renaming binds->aC
open Go.RowKit renaming Below->aK
open Go.RowKit.Below renaming refl->Z,heap_setCell->aS
open Go.Sort renaming ahead->aB
open Go.Value renaming slice->O,pointer->aj,int->aH,bool->aP
open _root_.List renaming getElem?_toArray->aG,getElem?_cons_zero->aM,getElem?_cons_succ->aN,replicate->aR,pairwise_append->aV,getElem?_take->aW,mem_singleton->aX,length_append->aY,length_take->bf
open _root_.Nat renaming le_refl->au,mul_le_mul_right->aU,lt_or_ge->aZ,zero_add->bU,le_trans->bV
open _root_.Option renaming some->U,none->X
open Option.some renaming inj->aL
open _root_.Or renaming inr->aJ,inl->bY
namespace Go.Proofs.YtmklifheakemeaaGreat
namespace Av
open Go.RowKit Rw YtmklifheakemeaaGreat.Nm Pr Bk Rg
theorem RX (a:Option bW) (n c:Nat) (w:ak):(binOp .eql 22 (O a n c) (O X 0 0)).run J w=.ok (aP a.isNone) w:=by
 simp [go_sem,binOp,run_equal_slice_nil (P:=J) w 22 3 a n c Tryz.underlying22]
theorem Ao (v:Sl) (l:List Int) (w:ak) (hv:Row EI w (dU v) l) (hl:l.length<=900) :
  bg J 32 #[dU v] w fun e w'=>(∃ v':Sl,e=Y (dU v')/\Own EI w' w.heap.size (dU v') l)/\aK w.heap.size w w':=by
 obtain⟨vo,vn,vc⟩:=v;rcases hv with⟨rfl,hv⟩|⟨a,cap,hv,h1,h2,h3⟩
 ·obtain⟨rfl,rfl,rfl⟩:vo=X/\vn=0/\vc=0:=by simpa using hv
  clear hv hl;have q:∀ w',(binOp .eql 22 (O X 0 0) (O X 0 0)).run J w'=.ok (aP aQ) w':=fun w'=>RX X 0 0 w';go_enter bX,bK;go_wp2;go_ret;exact⟨⟨(X,0,0),rfl,iM _ _⟩,Z _ _⟩
 ·obtain⟨rfl,rfl,rfl⟩:vo=U a/\vn=l.length/\vc=cap:=by simpa using hv
  have hx:Row EI w (O (U a) l.length vc) l:=aJ ⟨a,vc,rfl,h1,h2,h3⟩;have n0:=fM w (aO #[] 3);obtain⟨q0,w0,r0,o0,g0⟩:=iY Nm.MW w.heap.size (dJ w #[] 3) (au _) (hx.on n0) (by omega) 22;obtain⟨v1,v3,hv1⟩:=(Row.dH o0).len;obtain⟨n,hn⟩:∃ n,n=l.length:=⟨_,rfl⟩;have Q:=aA (show (∃ v':Sl,Y q0=Y (dU v')/\Own EI w0 w.heap.size (dU v') l)/\aK w.heap.size w w0 from ⟨⟨(v1,l.length,v3),by rw [hv1],by subst hv1; exact o0⟩,n0.trans (g0.mono n0.size)⟩);rw [<- hn] at r0 ⊢;clear hv h1 h2 h3 hx o0 g0 n0 hv1 hn hl;have q:∀ w',(binOp .eql 22 (O (U a) n vc) (O X 0 0)).run J w'=.ok (aP bn) w':=fun w'=>RX (U a) n vc w';have r0:(aD #[22,22] 22 #[O (U ⟨w.heap.size,0,X⟩) 0 0,O (U a) n vc]).run J (w.alloc (aO #[] 3))=.ok q0 w0:=r0;go_enter bX,bK;go_wp2_with (first | (at_builtin; refine wpList_append_run rfl _ _ 22 rfl rfl rfl r0 ?_) | fail);go_ret;exact Q.out
theorem RY (a:Option bW) (n c:Nat) (w:ak):(binOp .eql 24 (O a n c) (O X 0 0)).run J w=.ok (aP a.isNone) w:=by
 simp [go_sem,binOp,run_equal_slice_nil (P:=J) w 24 31 a n c Tryz.underlying24]
theorem Ku (v:Sl) (l:List fC) (w:ak) (hv:Row EJ w (dU v) l) (hl:l.length<=900) :
  bg J 140 #[dU v] w fun e w'=>(∃ v':Sl,e=Y (dU v')/\Own EJ w' w.heap.size (dU v') l)/\aK w.heap.size w w':=by
 obtain⟨vo,vn,vc⟩:=v;rcases hv with⟨rfl,hv⟩|⟨a,cap,hv,h1,h2,h3⟩
 ·obtain⟨rfl,rfl,rfl⟩:vo=X/\vn=0/\vc=0:=by simpa using hv
  clear hv hl;have q:∀ w',(binOp .eql 24 (O X 0 0) (O X 0 0)).run J w'=.ok (aP aQ) w':=fun w'=>RY X 0 0 w';go_enter bL,bD;go_wp2;go_ret;exact⟨⟨(X,0,0),rfl,iM _ _⟩,Z _ _⟩
 ·obtain⟨rfl,rfl,rfl⟩:vo=U a/\vn=l.length/\vc=cap:=by simpa using hv
  have hx:Row EJ w (O (U a) l.length vc) l:=aJ ⟨a,vc,rfl,h1,h2,h3⟩;have n0:=fM w (aO #[] 31);obtain⟨q0,w0,r0,o0,g0⟩:=iY CY w.heap.size (dJ w #[] 31) (au _) (hx.on n0) (by omega) 24;obtain⟨v1,v3,hv1⟩:=(Row.dH o0).len;obtain⟨n,hn⟩:∃ n,n=l.length:=⟨_,rfl⟩;have Q:=aA (show (∃ v':Sl,Y q0=Y (dU v')/\Own EJ w0 w.heap.size (dU v') l)/\aK w.heap.size w w0 from ⟨⟨(v1,l.length,v3),by rw [hv1],by subst hv1; exact o0⟩,n0.trans (g0.mono n0.size)⟩);rw [<- hn] at r0 ⊢;clear hv h1 h2 h3 hx o0 g0 n0 hv1 hn hl;have q:∀ w',(binOp .eql 24 (O (U a) n vc) (O X 0 0)).run J w'=.ok (aP bn) w':=fun w'=>RY (U a) n vc w';have r0:(aD #[24,24] 24 #[O (U ⟨w.heap.size,0,X⟩) 0 0,O (U a) n vc]).run J (w.alloc (aO #[] 31))=.ok q0 w0:=r0;go_enter bL,bD;go_wp2_with (first | (at_builtin; refine wpList_append_run rfl _ _ 24 rfl rfl rfl r0 ?_) | fail);go_ret;exact Q.out
theorem RZ (a:Option bW) (n c:Nat) (w:ak):(binOp .eql 23 (O a n c) (O X 0 0)).run J w=.ok (aP a.isNone) w:=by
 simp [go_sem,binOp,run_equal_slice_nil (P:=J) w 23 74 a n c Tryz.underlying23]
theorem Kv (v:Sl) (l:List jD) (w:ak) (hv:Row ED w (dU v) l) (hl:l.length<=900) :
  bg J 141 #[dU v] w fun e w'=>(∃ v':Sl,e=Y (dU v')/\Own ED w' w.heap.size (dU v') l)/\aK w.heap.size w w':=by
 obtain⟨vo,vn,vc⟩:=v;rcases hv with⟨rfl,hv⟩|⟨a,cap,hv,h1,h2,h3⟩
 ·obtain⟨rfl,rfl,rfl⟩:vo=X/\vn=0/\vc=0:=by simpa using hv
  clear hv hl;have q:∀ w',(binOp .eql 23 (O X 0 0) (O X 0 0)).run J w'=.ok (aP aQ) w':=fun w'=>RZ X 0 0 w';go_enter bM,bF;go_wp2;go_ret;exact⟨⟨(X,0,0),rfl,iM _ _⟩,Z _ _⟩
 ·obtain⟨rfl,rfl,rfl⟩:vo=U a/\vn=l.length/\vc=cap:=by simpa using hv
  have hx:Row ED w (O (U a) l.length vc) l:=aJ ⟨a,vc,rfl,h1,h2,h3⟩;have n0:=fM w (aO #[] 74);obtain⟨q0,w0,r0,o0,g0⟩:=iY okD w.heap.size (dJ w #[] 74) (au _) (hx.on n0) (by omega) 23;obtain⟨v1,v3,hv1⟩:=(Row.dH o0).len;obtain⟨n,hn⟩:∃ n,n=l.length:=⟨_,rfl⟩;have Q:=aA (show (∃ v':Sl,Y q0=Y (dU v')/\Own ED w0 w.heap.size (dU v') l)/\aK w.heap.size w w0 from ⟨⟨(v1,l.length,v3),by rw [hv1],by subst hv1; exact o0⟩,n0.trans (g0.mono n0.size)⟩);rw [<- hn] at r0 ⊢;clear hv h1 h2 h3 hx o0 g0 n0 hv1 hn hl;have q:∀ w',(binOp .eql 23 (O (U a) n vc) (O X 0 0)).run J w'=.ok (aP bn) w':=fun w'=>RZ (U a) n vc w';have r0:(aD #[23,23] 23 #[O (U ⟨w.heap.size,0,X⟩) 0 0,O (U a) n vc]).run J (w.alloc (aO #[] 74))=.ok q0 w0:=r0;go_enter bM,bF;go_wp2_with (first | (at_builtin; refine wpList_append_run rfl _ _ 23 rfl rfl rfl r0 ?_) | fail);go_ret;exact Q.out
theorem R6 (a:Option bW) (n c:Nat) (w:ak):(binOp .eql 25 (O a n c) (O X 0 0)).run J w=.ok (aP a.isNone) w:=by
 simp [go_sem,binOp,run_equal_slice_nil (P:=J) w 25 66 a n c Tryz.underlying25]
theorem Kw (v:Sl) (l:List iq) (w:ak) (hv:Row EN w (dU v) l) (hl:l.length<=900) :
  bg J 142 #[dU v] w fun e w'=>(∃ v':Sl,e=Y (dU v')/\Own EN w' w.heap.size (dU v') l)/\aK w.heap.size w w':=by
 obtain⟨vo,vn,vc⟩:=v;rcases hv with⟨rfl,hv⟩|⟨a,cap,hv,h1,h2,h3⟩
 ·obtain⟨rfl,rfl,rfl⟩:vo=X/\vn=0/\vc=0:=by simpa using hv
  clear hv hl;have q:∀ w',(binOp .eql 25 (O X 0 0) (O X 0 0)).run J w'=.ok (aP aQ) w':=fun w'=>R6 X 0 0 w';go_enter bP,bG;go_wp2;go_ret;exact⟨⟨(X,0,0),rfl,iM _ _⟩,Z _ _⟩
 ·obtain⟨rfl,rfl,rfl⟩:vo=U a/\vn=l.length/\vc=cap:=by simpa using hv
  have hx:Row EN w (O (U a) l.length vc) l:=aJ ⟨a,vc,rfl,h1,h2,h3⟩;have n0:=fM w (aO #[] 66);obtain⟨q0,w0,r0,o0,g0⟩:=iY nO w.heap.size (dJ w #[] 66) (au _) (hx.on n0) (by omega) 25;obtain⟨v1,v3,hv1⟩:=(Row.dH o0).len;obtain⟨n,hn⟩:∃ n,n=l.length:=⟨_,rfl⟩;have Q:=aA (show (∃ v':Sl,Y q0=Y (dU v')/\Own EN w0 w.heap.size (dU v') l)/\aK w.heap.size w w0 from ⟨⟨(v1,l.length,v3),by rw [hv1],by subst hv1; exact o0⟩,n0.trans (g0.mono n0.size)⟩);rw [<- hn] at r0 ⊢;clear hv h1 h2 h3 hx o0 g0 n0 hv1 hn hl;have q:∀ w',(binOp .eql 25 (O (U a) n vc) (O X 0 0)).run J w'=.ok (aP bn) w':=fun w'=>R6 (U a) n vc w';have r0:(aD #[25,25] 25 #[O (U ⟨w.heap.size,0,X⟩) 0 0,O (U a) n vc]).run J (w.alloc (aO #[] 66))=.ok q0 w0:=r0;go_enter bP,bG;go_wp2_with (first | (at_builtin; refine wpList_append_run rfl _ _ 25 rfl rfl rfl r0 ?_) | fail);go_ret;exact Q.out
theorem R7 (a:Option bW) (n c:Nat) (w:ak):(binOp .eql 26 (O a n c) (O X 0 0)).run J w=.ok (aP a.isNone) w:=by
 simp [go_sem,binOp,run_equal_slice_nil (P:=J) w 26 34 a n c Tryz.underlying26]
theorem Ky (v:Sl) (l:List qM) (w:ak) (hv:Row EW w (dU v) l) (hl:l.length<=900) :
  bg J 143 #[dU v] w fun e w'=>(∃ v':Sl,e=Y (dU v')/\Own EW w' w.heap.size (dU v') l)/\aK w.heap.size w w':=by
 obtain⟨vo,vn,vc⟩:=v;rcases hv with⟨rfl,hv⟩|⟨a,cap,hv,h1,h2,h3⟩
 ·obtain⟨rfl,rfl,rfl⟩:vo=X/\vn=0/\vc=0:=by simpa using hv
  clear hv hl;have q:∀ w',(binOp .eql 26 (O X 0 0) (O X 0 0)).run J w'=.ok (aP aQ) w':=fun w'=>R7 X 0 0 w';go_enter bR,bH;go_wp2;go_ret;exact⟨⟨(X,0,0),rfl,iM _ _⟩,Z _ _⟩
 ·obtain⟨rfl,rfl,rfl⟩:vo=U a/\vn=l.length/\vc=cap:=by simpa using hv
  have hx:Row EW w (O (U a) l.length vc) l:=aJ ⟨a,vc,rfl,h1,h2,h3⟩;have n0:=fM w (aO #[] 34);obtain⟨q0,w0,r0,o0,g0⟩:=iY okW w.heap.size (dJ w #[] 34) (au _) (hx.on n0) (by omega) 26;obtain⟨v1,v3,hv1⟩:=(Row.dH o0).len;obtain⟨n,hn⟩:∃ n,n=l.length:=⟨_,rfl⟩;have Q:=aA (show (∃ v':Sl,Y q0=Y (dU v')/\Own EW w0 w.heap.size (dU v') l)/\aK w.heap.size w w0 from ⟨⟨(v1,l.length,v3),by rw [hv1],by subst hv1; exact o0⟩,n0.trans (g0.mono n0.size)⟩);rw [<- hn] at r0 ⊢;clear hv h1 h2 h3 hx o0 g0 n0 hv1 hn hl;have q:∀ w',(binOp .eql 26 (O (U a) n vc) (O X 0 0)).run J w'=.ok (aP bn) w':=fun w'=>R7 (U a) n vc w';have r0:(aD #[26,26] 26 #[O (U ⟨w.heap.size,0,X⟩) 0 0,O (U a) n vc]).run J (w.alloc (aO #[] 34))=.ok q0 w0:=r0;go_enter bR,bH;go_wp2_with (first | (at_builtin; refine wpList_append_run rfl _ _ 26 rfl rfl rfl r0 ?_) | fail);go_ret;exact Q.out
theorem R8 (a:Option bW) (n c:Nat) (w:ak):(binOp .eql 32 (O a n c) (O X 0 0)).run J w=.ok (aP a.isNone) w:=by
 simp [go_sem,binOp,run_equal_slice_nil (P:=J) w 32 70 a n c Tryz.underlying32]
theorem mW (v:Sl) (l:List C5) (w:ak) (hv:Row EC w (dU v) l) (hl:l.length<=900) :
  bg J 123 #[dU v] w fun e w'=>(∃ v':Sl,e=Y (dU v')/\Own EC w' w.heap.size (dU v') l)/\aK w.heap.size w w':=by
 obtain⟨vo,vn,vc⟩:=v;rcases hv with⟨rfl,hv⟩|⟨a,cap,hv,h1,h2,h3⟩
 ·obtain⟨rfl,rfl,rfl⟩:vo=X/\vn=0/\vc=0:=by simpa using hv
  clear hv hl;have q:∀ w',(binOp .eql 32 (O X 0 0) (O X 0 0)).run J w'=.ok (aP aQ) w':=fun w'=>R8 X 0 0 w';go_enter bS,bI;go_wp2;go_ret;exact⟨⟨(X,0,0),rfl,iM _ _⟩,Z _ _⟩
 ·obtain⟨rfl,rfl,rfl⟩:vo=U a/\vn=l.length/\vc=cap:=by simpa using hv
  have hx:Row EC w (O (U a) l.length vc) l:=aJ ⟨a,vc,rfl,h1,h2,h3⟩;have n0:=fM w (aO #[] 70);obtain⟨q0,w0,r0,o0,g0⟩:=iY uW w.heap.size (dJ w #[] 70) (au _) (hx.on n0) (by omega) 32;obtain⟨v1,v3,hv1⟩:=(Row.dH o0).len;obtain⟨n,hn⟩:∃ n,n=l.length:=⟨_,rfl⟩;have Q:=aA (show (∃ v':Sl,Y q0=Y (dU v')/\Own EC w0 w.heap.size (dU v') l)/\aK w.heap.size w w0 from ⟨⟨(v1,l.length,v3),by rw [hv1],by subst hv1; exact o0⟩,n0.trans (g0.mono n0.size)⟩);rw [<- hn] at r0 ⊢;clear hv h1 h2 h3 hx o0 g0 n0 hv1 hn hl;have q:∀ w',(binOp .eql 32 (O (U a) n vc) (O X 0 0)).run J w'=.ok (aP bn) w':=fun w'=>R8 (U a) n vc w';have r0:(aD #[32,32] 32 #[O (U ⟨w.heap.size,0,X⟩) 0 0,O (U a) n vc]).run J (w.alloc (aO #[] 70))=.ok q0 w0:=r0;go_enter bS,bI;go_wp2_with (first | (at_builtin; refine wpList_append_run rfl _ _ 32 rfl rfl rfl r0 ?_) | fail);go_ret;exact Q.out
end Av
namespace Bk
open Go.RowKit Rw YtmklifheakemeaaGreat.Nm Pr
def Nc (B b2 _b3:Nat) (so:Option bW) (sn sc at_:Nat) (lo hiv:aI) (lt ld:List jD) (i:Nat) (v:aI) (x:ak):Prop :=
 match i with
 | 0=>∃ g,v=O (U ⟨g,0,X⟩) 0 0/\B<=g/\dK x g #[] 74
 | 1=>v=aj (U ⟨b2,2,X⟩)
 | 2=>v=O so sn sc
 | 3=>v=aH aT (at_:Int)
 | 4=>v=lo
 | 5=>lZ x B v lt
 | 6=>v=aj (U ⟨b2,2,X⟩)
 | 7=>v=O so sn sc
 | 8=>v=aH aT (at_:Int)
 | 9=>v=aH aT ((at_:Int)+1)
 | 10=>v=hiv
 | 11=>lZ x B v (lt++ld)
 | 12=>v=aj (U ⟨b2,2,X⟩)
 | _=>True
noncomputable def ZJ:Code:=((Tryz.f40.body.bind (eO 4)).getD .skip)
theorem R9 (B b2 b3:Nat) (so:Option bW) (sn sc at_:Nat) (lo hiv:aI) (lt ld:List jD) (i:Nat) (v:aI) (x x':ak) (h:Nc B b2 b3 so sn sc at_ lo hiv lt ld i v x) (hb:aK x.heap.size x x'):Nc B b2 b3 so sn sc at_ lo hiv lt ld i v x':=by
 by_cases hi:i<13
 ·rcases (by omega:i=0\/i=1\/i=2\/i=3\/i=4\/i=5\/i=6\/i=7\/i=8\/i=9\/i=10\/i=11\/i=12) with rfl|rfl|rfl|rfl|rfl|rfl|rfl|rfl|rfl|rfl|rfl|rfl|rfl
  ·obtain⟨g,h1,h2,h3⟩:=h;exact⟨g,h1,h2,h3.on hb⟩
  ·exact h
  ·exact h
  ·exact h
  ·exact h
  ·exact dI h hb
  ·exact h
  ·exact h
  ·exact h
  ·exact h
  ·exact h
  ·exact dI h hb
  ·exact h
 ·unfold Nc
  split <;> first | omega | trivial
theorem agw (Q:Exit->cB->ak->Prop) (W:ak) (b2 b3:Nat) (me:Int) (y1 y3 y4 y5:aI) (so:Option bW) (sn sc at_:Nat) (l:List jD) (u0 u1 u2 u5 u6 u7 u9 u10 u11 u12 u13 u14 u15 u16 u17 u18 u19 u20 u21 u22 u23 u24 u25 u26 u27 u28 u29 u30 u31 u32 u33 u34 u35 u36 u37 u38 u39 u40 u41 u42 u43 u44 u45 u46 u47 u48 u49 u50 u51 u52 u53 u54 u55 u56 u57 u58 u59:aI)
  (h2:dK W b2 #[aH aT me,y1,O so sn sc,y3,y4,y5] 28) (hs:wG W (O so sn sc) l) (hat:at_+1<=l.length) (hlen:l.length<=900)
  (hQ:∀ (x:ak) (v28 v29 v30 v31 v32 v33 v34 v35 v36 v37 v38 v39 v40:aI),dK x b2 #[aH aT me,y1,v39,y3,y4,y5] 28->lZ x W.heap.size v39 (l.take at_++l.drop (at_+1))->(∀ B,B<=b2->aK B W x)->(∀ c cs t,c≠b2->dK W c cs t->dK x c cs t)->(∀ k,k<W.heap.size->k≠b2->x.heap[k]?=W.heap[k]?)->Q .normal ⟨(u0::u1::u2::aj (U ⟨b2,0,X⟩)::aj (U ⟨b3,0,X⟩)::u5::u6::u7::aH aT (at_:Int)::u9::u10::u11::u12::u13::u14::u15::u16::u17::u18::u19::u20::u21::u22::u23::u24::u25::u26::u27::v28::v29::v30::v31::v32::v33::v34::v35::v36::v37::v38::v39::v40::u41::u42::u43::u44::u45::u46::u47::u48::u49::u50::u51::u52::u53::u54::u55::u56::u57::u58::u59::[]).toArray,[]⟩ x) :
  Code.wp J ZJ Q ⟨(u0::u1::u2::aj (U ⟨b2,0,X⟩)::aj (U ⟨b3,0,X⟩)::u5::u6::u7::aH aT (at_:Int)::u9::u10::u11::u12::u13::u14::u15::u16::u17::u18::u19::u20::u21::u22::u23::u24::u25::u26::u27::u28::u29::u30::u31::u32::u33::u34::u35::u36::u37::u38::u39::u40::u41::u42::u43::u44::u45::u46::u47::u48::u49::u50::u51::u52::u53::u54::u55::u56::u57::u58::u59::[]).toArray,[]⟩ W:=by
 have HQ:=aA hQ;have H2:=aA h2;have AT1:=aA (show at_<=900 by omega);obtain⟨lo,Dc,wB⟩:=vS okD hs at_ (by omega);obtain⟨hiv,Df,xX⟩:=qp okD hs (at_+1) hat;have LT:=aA (show (l.take at_).length<=1000 by rw [bf]; omega);have Sc:=aA (show (l.take at_).length<=900 by rw [bf]; omega);have LD:=aA (show (l.drop (at_+1)).length<=1000 by rw [List.length_drop]; omega);generalize l.take at_=lt at *;generalize l.drop (at_+1)=ld at *;have SL:=aA Dc;have SH:=aA (show ∀ w,(Instr.sliceAt 23 (O so sn sc) (U (aH aT ((at_:Int)+1))) X X).run J w=.ok hiv w from Df);have RL:=aA wB;have RH:=aA xX;clear hQ h2 hs Dc Df wB xX hat hlen;have iQ:=R9 W.heap.size b2 b3 so sn sc at_ lo hiv lt ld;unfold ZJ
 conv=>arg 2; whnf
 have nd:∀ j,(j<28\/41<=j)->∀ i,i<13->(fun i=>28+i) i≠j:=by
  intro j hj i hi h;simp only at h;omega
 refine Rg.fQ 14 13 (fun i=>28+i) (fun i=>if i=0 then 5 else if i=5 then 11 else 13) (Nc W.heap.size b2 b3 so sn sc at_ lo hiv lt ld) (by kernel_rfl) (by kernel_rfl) rfl (by decide) (fun i j _ _ h=>by have h2:28+i=28+j:=h; omega) (fun i hi=>by show 28+i<60; omega) ?_ (fun _=>Rg.jl 1 (by kernel_rfl)) (fun kk o h1 h2=>by omega) ?_
 ·intro i o hi ho a x D hnd hc hD hb seen K hK;clear HQ;rcases (by omega:i=0\/i=1\/i=2\/i=3\/i=4\/i=5\/i=6\/i=7\/i=8\/i=9\/i=10\/i=11\/i=12) with rfl|rfl|rfl|rfl|rfl|rfl|rfl|rfl|rfl|rfl|rfl|rfl|rfl
  ·cases ho;exact Rg.dD rfl rfl (Rg.iU a.eval _ 23 0 #[] rfl rfl (by simp [go_sem])) (hK (O (U ⟨x.heap.size,0,X⟩) 0 0) (x.alloc (aO #[] 74)) ⟨x.heap.size,rfl,hb.size,dJ x #[] 74⟩ ((Z _ _).alloc hb.size _) fun j u _ _ _ _ _ h=>iQ j u _ _ h ((Z _ _).alloc (au _) _))
  ·cases ho;have e3:a.eval (ay 3)=aj (U ⟨b2,0,X⟩):=seen.kp 3 _ (nd 3 (by omega)) rfl;exact Rg.dD rfl rfl (Rg.dR a.eval _ 28 (ay 3) 2 rfl (by rw [e3]; simp [go_sem])) (hK _ _ rfl (Z _ _) fun _ _ _ _ _ _ _ h=>h)
  ·cases ho;have e29:a.eval (ay 29)=aj (U ⟨b2,2,X⟩):=seen.at_ ⟨1,.data⟩ (by simp) rfl (aJ (by decide));have y:=(H2.out.on hb).cell 2;simp only [aG,aM,aN] at y;exact Rg.dD rfl rfl (Rg.dX a.eval _ 23 (ay 29) rfl (by rw [e29]; simp [go_sem,y])) (hK _ _ rfl (Z _ _) fun _ _ _ _ _ _ _ h=>h)
  ·cases ho;have e8:a.eval (ay 8)=aH aT (at_:Int):=seen.kp 8 _ (nd 8 (by omega)) rfl;exact Rg.dD rfl rfl (Rg.gy a.eval _ (ay 8) rfl x) (hK _ _ e8 (Z _ _) fun _ _ _ _ _ _ _ h=>h)
  ·cases ho;have e30:a.eval (ay 30)=O so sn sc:=seen.at_ ⟨2,.data⟩ (by simp) rfl (aJ (by decide));have e31:a.eval (ay 31)=aH aT (at_:Int):=seen.at_ ⟨3,.data⟩ (by simp) rfl (aJ (by decide));exact Rg.dD rfl rfl (Rg.kF a.eval _ 23 (ay 30) X (U (ay 31)) X rfl (by show (Instr.sliceAt 23 (a.eval (ay 30)) X (U (a.eval (ay 31))) X).run J x=.ok lo x; rw [e30,e31]; exact SL.out x)) (hK _ _ rfl (Z _ _) fun _ _ _ _ _ _ _ h=>h)
  ·cases ho;obtain⟨g,q0,hBg,hbx⟩:=seen.at_ ⟨0,.data⟩ (by simp) rfl (bY rfl);have q0:a.eval (ay 28)=O (U ⟨g,0,X⟩) 0 0:=q0;have e32:a.eval (ay 32)=lo:=seen.at_ ⟨4,.data⟩ (by simp) rfl (aJ (by decide));obtain⟨v',x',r,o',gr⟩:=iY okD W.heap.size hbx hBg (RL.out.on hb) LT.out 23;exact Rg.dD rfl rfl (Rg.fZ a.eval _ (ay 28) (ay 32) 23 rfl q0 e32 r) (hK v' x' o' (gr.mono hb.size) fun j u _ _ _ _ _ h=>iQ j u _ _ h gr)
  ·cases ho;have e3:a.eval (ay 3)=aj (U ⟨b2,0,X⟩):=seen.kp 3 _ (nd 3 (by omega)) rfl;exact Rg.dD rfl rfl (Rg.dR a.eval _ 28 (ay 3) 2 rfl (by rw [e3]; simp [go_sem])) (hK _ _ rfl (Z _ _) fun _ _ _ _ _ _ _ h=>h)
  ·cases ho;have e34:a.eval (ay 34)=aj (U ⟨b2,2,X⟩):=seen.at_ ⟨6,.data⟩ (by simp) rfl (aJ (by decide));have y:=(H2.out.on hb).cell 2;simp only [aG,aM,aN] at y;exact Rg.dD rfl rfl (Rg.dX a.eval _ 23 (ay 34) rfl (by rw [e34]; simp [go_sem,y])) (hK _ _ rfl (Z _ _) fun _ _ _ _ _ _ _ h=>h)
  ·cases ho;have e8:a.eval (ay 8)=aH aT (at_:Int):=seen.kp 8 _ (nd 8 (by omega)) rfl;exact Rg.dD rfl rfl (Rg.gy a.eval _ (ay 8) rfl x) (hK _ _ e8 (Z _ _) fun _ _ _ _ _ _ _ h=>h)
  ·cases ho;have e36:a.eval (ay 36)=aH aT (at_:Int):=seen.at_ ⟨8,.data⟩ (by simp) rfl (aJ (by decide));exact Rg.dD rfl rfl (Rg.Rz a.eval _ .add 3 (ay 36) (.const (aH aT 1)) 3 rfl (by rw [e36]; exact add_one _ _ _ _ at_ AT1.out)) (hK _ _ rfl (Z _ _) fun _ _ _ _ _ _ _ h=>h)
  ·cases ho;have e35:a.eval (ay 35)=O so sn sc:=seen.at_ ⟨7,.data⟩ (by simp) rfl (aJ (by decide));have e37:a.eval (ay 37)=aH aT ((at_:Int)+1):=seen.at_ ⟨9,.data⟩ (by simp) rfl (aJ (by decide));exact Rg.dD rfl rfl (Rg.kF a.eval _ 23 (ay 35) (U (ay 37)) X X rfl (by show (Instr.sliceAt 23 (a.eval (ay 35)) (U (a.eval (ay 37))) X X).run J x=.ok hiv x; rw [e35,e37]; exact SH.out x)) (hK _ _ rfl (Z _ _) fun _ _ _ _ _ _ _ h=>h)
  ·cases ho;have o33:lZ x W.heap.size (a.eval (ay 33)) (lt):=seen.at_ ⟨5,.data⟩ (by simp) rfl (bY rfl);have e38:a.eval (ay 38)=hiv:=seen.at_ ⟨10,.data⟩ (by simp) rfl (aJ (by decide));have ox:wG x (a.eval (ay 38)) ld:=by rw [e38]; exact RH.out.on hb
   obtain⟨v',x',r,o',gr⟩:=gJ okD W.heap.size o33 ox (by have:=Sc.out; omega) LD.out hb.size 23;exact Rg.dD rfl rfl (Rg.fZ a.eval _ (ay 33) (ay 38) 23 rfl rfl rfl r) (hK v' x' o' ((Z _ x).grown gr hb.size fun j hj=>(o33.lt j hj).1) fun j u hj dj nl nx ni h=>by
    rcases (by omega:j=0\/j=1\/j=2\/j=3\/j=4\/j=5\/j=6\/j=7\/j=8\/j=9\/j=10\/j=11\/j=12) with rfl|rfl|rfl|rfl|rfl|rfl|rfl|rfl|rfl|rfl|rfl|rfl|rfl
    ·exact absurd rfl (fun _:(0:Nat)=0=>nl (hD ⟨5,.data⟩ (by simp) rfl))
    ·exact h
    ·exact h
    ·exact h
    ·exact h
    ·exact absurd rfl (fun _:(0:Nat)=0=>nx rfl)
    ·exact h
    ·exact h
    ·exact h
    ·exact h
    ·exact h
    ·exact absurd rfl (fun _:(0:Nat)=0=>ni rfl)
    ·exact h)
  ·cases ho;have e3:a.eval (ay 3)=aj (U ⟨b2,0,X⟩):=seen.kp 3 _ (nd 3 (by omega)) rfl;exact Rg.dD rfl rfl (Rg.dR a.eval _ 28 (ay 3) 2 rfl (by rw [e3]; simp [go_sem])) (hK _ _ rfl (Z _ _) fun _ _ _ _ _ _ _ h=>h)
 ·intro a w' df sz kp ⟨vs,hv⟩ hb;have gr:a.tmps[39]?=U (vs 11):=(hv 11 (by omega)).1;have gp:a.tmps[40]?=U (aj (U ⟨b2,2,X⟩)):=by
   have h:vs 12=aj (U ⟨b2,2,X⟩):=(hv 12 (by omega)).2 (by decide);rw [<- h];exact (hv 12 (by omega)).1
  have oR:lZ w' W.heap.size (vs 11) (lt++ld):=(hv 11 (by omega)).2 (by decide);generalize vs 11=xR at *;obtain⟨ca,cp,eR⟩:=(Row.dH oR).len;have hbx:=H2.out.on hb;have hblt:=H2.out.lt;have c5:=hbx.cell 2;have f5:=hbx.fr 2;simp only [aG,aM,aN] at c5;have hb1:=dW (k:=2) hbx xR;show Rg.fH _ _ _ 1 13 a w';simp only [Rg.fH];refine Rg.fP 23 (ay 40) (ay 39) rfl rfl rfl rfl (Rg.dN gp) (Rg.dN gr) (w':=w'.setCell ⟨b2,2,X⟩ xR) (by rw [eR]; simp [go_sem,c5,f5]) ?_;have rV:∀ j,(j<28\/41<=j)->a.tmps[j]?=(u0::u1::u2::aj (U ⟨b2,0,X⟩)::aj (U ⟨b3,0,X⟩)::u5::u6::u7::aH aT (at_:Int)::u9::u10::u11::u12::u13::u14::u15::u16::u17::u18::u19::u20::u21::u22::u23::u24::u25::u26::u27::u28::u29::u30::u31::u32::u33::u34::u35::u36::u37::u38::u39::u40::u41::u42::u43::u44::u45::u46::u47::u48::u49::u50::u51::u52::u53::u54::u55::u56::u57::u58::u59::[])[j]?:=fun j hj=>(kp j (nd j hj)).trans aG;obtain⟨mid,hmid,rfl⟩:=Rg.gI 28 13 df sz (by simp) rV
  match mid,hmid with
  | [v28,v29,v30,v31,v32,v33,v34,v35,v36,v37,v38,v39,v40],_ =>
   have e1:U v39=U xR:=gr;obtain rfl:=aL e1;refine HQ.out _ v28 v29 v30 v31 v32 v33 v34 v35 v36 v37 v38 v39 v40 ?_ ?_ ?_ ?_ ?_
   ·simpa using hb1
   ·exact eF oR b2 2 _ hblt
   ·exact fun B hB=>(hb.mono (Nat.le_of_lt (Nat.lt_of_le_of_lt hB hblt))).setCell hB _
   ·intro c cs t hc hbc;exact (aS _ _ _ _ hc).trans (hbc.on hb)
   ·intro k hk hne;exact (aS _ _ _ _ hne).trans (hb.block k hk)
end Bk
namespace Av
open Go.RowKit Rw YtmklifheakemeaaGreat.Nm Pr Bk Go.Sort
theorem Sd {α:Type} [Inhabited α] (enc:α->aI) (d:Array α) (cur:Array aI) (h:d.size<=cur.size):(putCells enc 0 d cur).toList.take d.size=d.toList.map enc:=by
 apply List.ext_getElem?;intro j;rw [aW];by_cases hj:j<d.size
 ·have hc:j<cur.size:=by omega
  simp [putCells,hj,hc]
 ·simp [hj]
theorem Ap {α β:Type} [Inhabited β] {E:Ek α} (K:E.Ok) {w:ak} {B g cap:Nat} {l l':List α} (h:Own E w B (O (U ⟨g,0,X⟩) l.length cap) l) (enc:β->aI) (d:Array β) (hd:d.toList.map enc=flat E l') (hl:l'.length=l.length) (n:Nat) (os:Array Obj) :
  Own E (grow (putRow enc (aB w n) g 0 d) os) B (O (U ⟨g,0,X⟩) l.length cap) l'/\w.grownBy (grow (putRow enc (aB w n) g 0 d) os) (U g):=by
 have hds:d.size=l.length * E.n:=by
  rw [<- hl,<- eB K l',<- hd];simp
 rcases gM h with⟨e,_⟩|⟨g',cap',cur,e,h1,h2,h3,h4,h5,h6⟩
 ·cases e
 obtain⟨rfl,rfl⟩:g=g'/\cap=cap':=by simpa using e
 have hlt:=lt_of_heap h2;have hb:(grow (putRow enc (aB w n) g 0 d) os).heap[g]?=U (aO (putCells enc 0 d cur) E.t (0,0)):=by
  rw [heap_grow_old _ _ (by simp [putRow,mapBlock,aB]; exact hlt)];unfold dK at h2;simp only [putRow,mapBlock,aB,Array.getElem?_modify,if_true,h2]
  rfl
 have hfit:d.size<=cur.size:=by
  rw [hds,h5];exact aU _ h3
 refine⟨⟨by rw [eB K],aJ ⟨g,cap,_,by rw [hl],h1,hb,by rw [hl]; exact h3,h4,by simp [putCells]; exact h5,?_⟩⟩,⟨rfl,rfl,rfl,by simp [putRow,mapBlock,aB],fun k hk hne=>?_⟩⟩
 ·rw [hl,<- hds,Sd enc d cur hfit,hd]
 ·rw [heap_grow_old _ _ (by simp [putRow,mapBlock,aB]; exact hk)];have hkg:g≠k:=fun e=>hne (by rw [e]);simp [putRow,mapBlock,aB,Array.getElem?_modify,hkg]
theorem DC {α:Type} {E:Ek α} {w:ak} {B g cap:Nat} {l:List α} (K:E.Ok) {β:Type} [Inhabited β] (enc:β->aI) (d:Array β) (hd:d.toList.map enc=flat E l) (h:Own E w B (O (U ⟨g,0,X⟩) l.length cap) l):Holds enc w g 0 d/\g<w.heap.size:=by
 rcases gM h with⟨e,_⟩|⟨g',cap',cur,e,h1,h2,h3,h4,h5,h6⟩
 ·cases e
 obtain⟨rfl,rfl⟩:g=g'/\cap=cap':=by simpa using e
 refine⟨fun j hj=>?_,h2.lt⟩;rw [bU];refine⟨?_,h2.fr j⟩;rw [h2.cell j];have hsz:d.size=l.length * E.n:=by
  rw [<- eB K l,<- hd];simp
 have h7:(cur.toList.take (l.length * E.n))[j]?=(d.toList.map enc)[j]?:=by rw [h6,hd]
 rw [aW,if_pos (by omega)] at h7;rw [Array.getElem?_toList] at h7;rw [h7,List.getElem?_map,Array.getElem?_toList,getElem!_pos d j hj,Array.getElem?_eq_getElem hj]
 rfl
theorem PW (w:ak) (B:Nat) (v:aI) (l:List Int) (h:zI w B v l) (hlen:l.length<=900):bg J 33 #[v] w fun e w'=>e=Y (.tuple #[])/\∃ l':List Int,zI w' B v l'/\l'.Perm l/\l'.Pairwise (·<=·)/\w.grownBy w' v.ownBlock:=by
 rcases gM h with⟨rfl,rfl⟩|⟨g,cap,cur,rfl,h1,h2,h3,h4,h5,h6⟩
 ·have hc:=Any.slices_Sort_int_none bZ X 0 w;refine Calls.mono hc ?_;rintro e w' ⟨rfl,rfl⟩;exact⟨rfl,[],h,List.Perm.refl _,List.Pairwise.nil,Rw.rT _ _⟩
 ·obtain⟨hh,hlt⟩:=DC Nm.MW (aH aT) l.toArray (by rw [He]) h;have hc:=Any.slices_Sort_int bZ g 0 cap l w hh hlt (by omega);refine Calls.mono hc ?_;rintro e w' ⟨rfl,n,os,rfl⟩;have hs:=Ap Nm.MW (l':=l.mergeSort fun x y=>decide (x<=y)) h (aH aT) (l.mergeSort fun x y=>decide (x<=y)).toArray (by rw [He]) (List.length_mergeSort l) n os;refine⟨rfl,_,hs.1,List.mergeSort_perm _ _,?_,hs.2⟩;have hp:=List.pairwise_mergeSort (le:=fun x y:Int=>decide (x<=y)) (fun a b c h1 h2=>by simp at h1 h2 ⊢; omega) (fun a b=>by simp; omega) l;exact hp.imp (fun {a b} hab=>by simpa using hab)
theorem H9 (d:Array Int) (n:Nat) (hs:∀ i j,i<=j->j<n->d[i]!<=d[j]!):∀ m,m<=n->(∀ x∈aF d m,∃ j,j<m/\d[j]! = x)/\(∀ j,j<m->d[j]!∈aF d m)/\(aF d m).Pairwise (·<·)
 | 0,_=>⟨fun x h=>by simp [aF] at h,fun j h=>by omega,by simp [aF]⟩
 | m+1,hm=>by
  obtain⟨h1,h2,h3⟩:=H9 d n hs m (by omega);rw [Lib.compactUpTo_succ];cases hk:Lib.keeps d m with
  | false =>
   simp only [Bool.false_eq_true,if_false,List.append_nil];have hk':m≠0/\d[m]! = d[m-1]!:=by
    have h:=of_decide_eq_false hk;rw [not_or] at h;exact⟨h.1,Classical.not_not.1 h.2⟩
   refine⟨fun x hx=>?_,fun j hj=>?_,h3⟩
   ·obtain⟨j,hj,e⟩:=h1 x hx;exact⟨j,by omega,e⟩
   ·rcases aZ j m with h|h
    ·exact h2 j h
    ·obtain rfl:j=m:=by omega
     rw [hk'.2];exact h2 _ (by omega)
  | true =>
   simp only [if_true];have hk':m=0\/d[m]!≠d[m-1]!:=of_decide_eq_true hk;refine⟨fun x hx=>?_,fun j hj=>?_,?_⟩
   ·rcases List.mem_append.1 hx with h|h
    ·obtain⟨j,hj,e⟩:=h1 x h;exact⟨j,by omega,e⟩
    ·exact⟨m,by omega,(aX.1 h).symm⟩
   ·rcases aZ j m with h|h
    ·exact List.mem_append_left _ (h2 j h)
    ·obtain rfl:j=m:=by omega
     exact List.mem_append_right _ (by simp)
   ·rw [aV];refine⟨h3,List.pairwise_singleton _ _,fun a ha b hb=>?_⟩;obtain⟨j,hj,rfl⟩:=h1 a ha;rw [aX.1 hb];have a1:=hs j (m-1) (by omega) (by omega);have a2:=hs (m-1) m (by omega) (by omega);rcases hk' with h|h
    ·omega
    ·omega
theorem Kz (l:List Int) (hs:l.Pairwise (·<=·)):(ah l).Pairwise (·<·)/\(∀ x,x∈ah l↔x∈l)/\(ah l).length<=l.length:=by
 have hd:∀ i j,i<=j->j<l.length->l.toArray[i]!<=l.toArray[j]!:=by
  intro i j hij hj;rw [getElem!_pos l.toArray i (by simp; omega),getElem!_pos l.toArray j (by simpa using hj)];rcases aZ i j with h|h
  ·have:=List.pairwise_iff_getElem.1 hs i j (by omega) hj h;simpa using this
  ·obtain rfl:i=j:=by omega
   exact Int.le_refl _
 obtain⟨h1,h2,h3⟩:=H9 l.toArray l.length hd l.length (au _);refine⟨h3,fun x=>⟨fun hx=>?_,fun hx=>?_⟩,?_⟩
 ·obtain⟨j,hj,rfl⟩:=h1 x hx;rw [getElem!_pos l.toArray j (by simpa using hj)];simp
 ·obtain⟨j,hj,rfl⟩:=List.mem_iff_getElem.1 hx;have:=h2 j hj;rw [getElem!_pos l.toArray j (by simpa using hj)] at this;simpa [ah] using this
 ·unfold ah aF;rw [List.length_map];exact bV (List.length_filter_le _ _) (by simp)
theorem Sg (w:ak) (B:Nat) (v:Sl) (l:List Int) (h:zI w B (dU v) l) (hs:l.Pairwise (·<=·)) (hlen:l.length<=900):bg J 34 #[dU v] w fun e w'=>(∃ v':Sl,e=Y (dU v')/\∃ l':List Int,zI w' B (dU v') l'/\l'.Pairwise (·<·)/\∀ x,x∈l'↔x∈l)/\w.grownBy w' (dU v).ownBlock:=by
 obtain⟨vo,vn,vc⟩:=v;rcases gM h with⟨h0,rfl⟩|⟨g,cap,cur,h0,h1,h2,h3,h4,h5,h6⟩
 ·obtain⟨rfl,rfl,rfl⟩:vo=X/\vn=0/\vc=0:=by simpa using h0
  have hc:=Any.slices_Compact_int_empty cu X 0 w;refine Calls.mono hc ?_;rintro e w' ⟨rfl,rfl⟩;exact⟨⟨(X,0,0),rfl,[],h,List.Pairwise.nil,fun _=>Iff.rfl⟩,Rw.rT _ _⟩
 ·obtain⟨rfl,rfl,rfl⟩:vo=U ⟨g,0,X⟩/\vn=l.length/\vc=cap:=by simpa using h0
  obtain⟨hh,hlt⟩:=DC Nm.MW (aH aT) l.toArray (by rw [He]) h;have hc:=Any.slices_Compact_int cu g 0 vc l w hh (by omega) h3;obtain⟨c1,c2,c3⟩:=Kz l hs;refine Calls.mono hc ?_;rintro e w' ⟨rfl,n,rfl⟩;have ht:=Ap Nm.MW (l':=ah l++aR (l.length-(ah l).length) 0) h (aH aT) (ah l++aR (l.length-(ah l).length) 0).toArray (by rw [He]) (by rw [aY,List.length_replicate]; omega) n #[];have hg:grow (putRow (aH aT) (aB w n) g 0 (ah l++aR (l.length-(ah l).length) 0).toArray) #[]=putRow (aH aT) (aB w n) g 0 (ah l++aR (l.length-(ah l).length) 0).toArray:=grow_empty _;rw [hg] at ht;refine⟨⟨(U ⟨g,0,X⟩,(ah l).length,vc),rfl,ah l,?_,c1,c2⟩,ht.2⟩;rcases gM ht.1 with⟨e,_⟩|⟨g',cap',cur',e,k1,k2,k3,k4,k5,k6⟩
  ·cases e
  ·obtain⟨rfl,_,rfl⟩:g=g'/\l.length=_/\vc=cap':=by simpa using e
   refine qK Nm.MW rfl k1 k2 (bV c3 h3) k4 k5 ?_;have k7:=congrArg (List.take ((ah l).length * EI.n)) k6;rw [List.take_take,uz Nm.MW,Nat.min_eq_left (aU _ (by rw [aY]; omega)),List.take_left'] at k7
   ·exact k7
   ·rfl
end Av
namespace Rl
open Go.RowKit Pu Pr
theorem PY {a b:List Cn} (ha:jN a) (h5:a.length<=5):Al (a++b)=jX a.length a b:=by
 have e:=Pt a ha h5;rw [Al] at e;rw [Al,yX a b [] a 0 e,bU]
def jH:List Cn->List Cn->Option (List Cn)
 | m,[]=>U m
 | m,c::r=>match oM m c with
  | none=>X
  | some n=>jH n r
theorem DF:∀ (r m p:List Cn),jN m->jH m r=U p->m.length<=p.length/\jN p
 | [],m,p,hm,h=>by
  obtain rfl:=aL h;exact⟨au _,hm⟩
 | c::r,m,p,hm,h=>by
  simp only [jH] at h;cases hi:oM m c with
  | none=>rw [hi] at h; cases h
  | some n =>
   rw [hi] at h;have e1:=Am m c n hm hi;obtain⟨e2,e3⟩:=DF r n p (kG m c n hm hi).1 h;exact⟨by omega,e3⟩
theorem zX:∀ (r m p:List Cn) (at_:Nat),jN m->m.length<=5->(jX at_ m r=.ok p↔jH m r=U p/\p.length<=5)
 | [],m,p,at_,_,h5=>by
  simp only [jX,jH];constructor
  ·intro h;injection h with h
   subst h;exact⟨rfl,h5⟩
  ·rintro⟨h,_⟩;rw [aL h]
 | c::r,m,p,at_,hm,h5=>by
  simp only [jX,jH];cases hi:oM m c with
  | none =>
   constructor
   ·intro h; cases h
   ·rintro⟨h,_⟩; cases h
  | some n =>
   simp only;have hn:=(kG m c n hm hi).1;by_cases h6:5<n.length
   ·rw [if_pos h6];constructor
    ·intro h; cases h
    ·rintro⟨h,h7⟩;have:=(DF r n p hn h).1;omega
   ·rw [if_neg h6];exact zX r n p (at_+1) hn (by omega)
theorem wJ:∀ (a b m m':List Cn),jH m a=U m'->jH m (a++b)=jH m' b
 | [],b,m,m',h=>by
  obtain rfl:=aL h
  rfl
 | c::r,b,m,m',h=>by
  simp only [List.cons_append,jH] at h ⊢;cases hi:oM m c with
  | none=>rw [hi] at h; cases h
  | some n =>
   rw [hi] at h;exact wJ r b n m' h
theorem DI:∀ (p m:List Cn),jN (m++p)->jH m p=U (m++p)
 | [],m,_=>by simp [jH]
 | c::r,m,h=>by
  have h1:∀ x∈m,Op.bytesLess x.1.toList c.1.toList=aQ:=fun x hx=>(aV.1 h).2.2 x hx c (List.mem_cons_self ..);simp only [jH];rw [FJ m c h1];simp only;rw [DI r (m++[c]) (by simpa using h)];simp
theorem Si {a b:List Cn} (ha:jN a):jH [] (a++b)=jH a b:=wJ a b [] a (by simpa using DI a [] (by simpa using ha))
theorem Sj {a b:List Cn} (ha:jN a) (h5:a.length<=5):sQ a b=match jH a b with
  | some p=>decide (p.length<=5)
  | none=>bn:=by
 unfold sQ;cases h:jH a b with
 | none =>
  cases h2:jX a.length a b with
  | ok p =>
   have:=(zX b a p a.length ha h5).1 h2;rw [h] at this;cases this.1
  | error e=>rfl
 | some p =>
  by_cases h6:p.length<=5
  ·rw [(zX b a p a.length ha h5).2 ⟨h,h6⟩];simp [h6]
  ·cases h2:jX a.length a b with
   | ok q =>
    have h3:=(zX b a q a.length ha h5).1 h2;rw [h] at h3;obtain rfl:=aL h3.1;exact absurd h3.2 h6
   | error e=>simp [h6]
end Rl
namespace Rl
open Go.RowKit Pu Rw Pr
def EA:Ek An:=⟨156,39,4,48,.agg #[.string ⟨#[]⟩,aP bn,aH aT 0,.string ⟨#[]⟩],At.av,At.acs⟩
structure NL (l:List An):Prop where
 rise:l.Pairwise fun x y=>Op.bytesLess x.1.toList y.1.toList=aQ
 five:l.length<=5
 small:∀ x∈l,x.1.size<=100/\x.2.2.2.size<=100
end Rl
namespace Rg
open Go.RowKit
end Rg
namespace Rg
open Go.RowKit Rw
structure ZK (i N A S:Nat) (d last:Nat->Nat) (V:Nat->aI->ak->Prop) (base:cB) (o:Oper) (a:cB) (x:ak):Prop where
 kp:∀ j u,(∀ i,i<N->d i≠j)->base.tmps[j]?=U u->a.eval (ay j)=u
 at_:∀ e∈o.after,aC .any e=aQ->e.on≠A->e.on≠S->(last e.on=i\/N<=last e.on)->V e.on (a.eval (ay (d e.on))) x
structure InX (l:List Oper) (N A S C:Nat) (d last:Nat->Nat) (V:Nat->aI->ak->Prop) (t:TypeId) (zero:Array aI) (cof:aI->Array aI) (base:cB) (W:ak) (L:Array Bool) (a:cB) (x:ak):Prop where
 cl:∀ i o,done L i->l[i]?=U o->∀ e∈o.after,aC .any e=aQ->done L e.on
 no:∀ i,N<=i->¬ done L i
 df:a.defers=base.defers
 sz:a.tmps.size=base.tmps.size
 kp:∀ j,(∀ i,i<N->d i≠j)->a.tmps[j]?=base.tmps[j]?
 vB:aK W.heap.size W x
 val:∃ vs:Nat->aI,∀ i,i<N->i≠S->done L i->a.tmps[d i]?=U (vs i)/\(i≠A->¬ done L (last i)->V i (vs i) x)
 box:done L A->¬ done L S->∃ bb,a.tmps[d A]?=U (aj (U ⟨bb,0,X⟩))/\W.heap.size<=bb/\dK x bb zero t
 fin:done L S->∃ bb v,a.tmps[d A]?=U (aj (U ⟨bb,0,X⟩))/\a.tmps[d C]?=U v/\W.heap.size<=bb/\dK x bb (cof v) t/\V C v x
theorem xY {P:Program} {Q:Exit->cB->ak->Prop} {id:Nat} {base:cB} {W:ak} {l:List Oper} (N A S C:Nat) (d last:Nat->Nat) (V:Nat->aI->ak->Prop) (t:TypeId) (zero:Array aI) (cof:aI->Array aI)
  (hm:P.follows .mixedOrders=aQ) (hf:Pn l.toArray=aQ) (hN:l.length=N) (hA:A<N) (hS:S<N) (hC:C<N) (hAS:A≠S) (hCS:C≠S) (hAC:A≠C) (hlC:N<=last C)
  (hinj:∀ i j,i<N->j<N->i≠S->j≠S->d i=d j->i=j) (hs:∀ i,i<N->d i<base.tmps.size)
  (hV:∀ i v x x',i<N->V i v x->aK x.heap.size x x'->V i v x')
  (hw:∀ o,l[S]?=U o->(∃ e∈o.after,aC .any e=aQ/\e.on=A)/\∃ e∈o.after,aC .any e=aQ/\e.on=C)
  (hop:∀ i o,i<N->i≠A->i≠S->l[i]?=U o->∀ a x,aK W.heap.size W x->ZK i N A S d last V base o a x->∀ K:cB->ak->Prop,(∀ v x',V i v x'->aK x.heap.size x x'->K (a.put (U (d i)) v) x')->wpOp P l.toArray Q i K a x)
  (hoA:∀ o,l[A]?=U o->∀ a x,∀ K:cB->ak->Prop,K (a.put (U (d A)) (aj (U ⟨x.heap.size,0,X⟩))) (x.alloc (aO zero t))->wpOp P l.toArray Q A K a x)
  (hoS:∀ o,l[S]?=U o->∀ a x bb v (D:Nat->Prop),(∀ j oj,D j->l[j]?=U oj->∀ e∈oj.after,aC .any e=aQ->D e.on)->(∀ e∈o.after,aC .any e=aQ->D e.on)->aK W.heap.size W x->a.eval (ay (d A))=aj (U ⟨bb,0,X⟩)->a.eval (ay (d C))=v->V C v x->W.heap.size<=bb->dK x bb zero t->∀ K:cB->ak->Prop,(∀ x',aK W.heap.size W x'->dK x' bb (cof v) t->(∀ j u,j<N->j≠A->j≠S->D j->¬ D (last j)->last j≠S->V j u x->V j u x')->K a x')->wpOp P l.toArray Q S K a x)
  (hend:∀ a x bb v,a.defers=base.defers->a.tmps.size=base.tmps.size->(∀ j,(∀ i,i<N->d i≠j)->a.tmps[j]?=base.tmps[j]?)->a.tmps[d A]?=U (aj (U ⟨bb,0,X⟩))->a.tmps[d C]?=U v->W.heap.size<=bb->dK x bb (cof v) t->V C v x->aK W.heap.size W x->(∃ vs:Nat->aI,∀ i,i<N->i≠S->i≠A->a.tmps[d i]?=U (vs i)/\(N<=last i->V i (vs i) x))->Q .normal a x):(Code.region id l.toArray aQ).wp P Q base W:=by
 refine rU (fun L a x=>InX l N A S C d last V t zero cof base W L a x) hm hf ?_ ?_ ?_
 ·exact⟨fun i o h=>absurd h (gQ _ _),fun i _=>gQ _ _,rfl,rfl,fun _ _=>rfl,(Z _ _).drew,⟨fun _=>.bool aQ,fun i _ _ h=>absurd h (gQ _ _)⟩,fun h=>absurd h (gQ _ _),fun h=>absurd h (gQ _ _)⟩
 ·intro L a x i o hsz I ho hnd oK;have hi:i<l.length:=(List.getElem?_eq_some_iff.1 ho).1;have hiN:i<N:=by omega
  have C9:i<L.size:=by omega
  obtain⟨vs,hvs⟩:=I.val;have hon:∀ e∈o.after,aC .any e=aQ->e.on<i:=fun e he hb=>by
   have h7:=List.all_eq_true.1 hf i (List.mem_range.2 (by simpa using hi));have ho':(l.toArray)[i]?=U o:=by simpa using ho
   rw [ho'] at h7;have h8:=Array.all_eq_true'.1 h7 e he;rw [hb] at h8;simpa using h8
  have dd:∀ {k},k≠i->done (L.setIfInBounds i aQ) k->done L k:=fun {k} h h5=>((iw C9 k).1 h5).resolve_left h;have du:∀ {k},done L k->done (L.setIfInBounds i aQ) k:=fun {k} h=>(iw C9 k).2 (aJ h);have cl':∀ k q,done (L.setIfInBounds i aQ) k->l[k]?=U q->∀ e∈q.after,aC .any e=aQ->done (L.setIfInBounds i aQ) e.on:=fun k q hk hq e he hb=>by
   by_cases e2:k=i
   ·subst e2;rw [hq] at ho;cases ho;exact du (oK e he hb)
   ·exact du (I.cl k q (dd e2 hk) hq e he hb)
  have no':∀ k,N<=k->¬ done (L.setIfInBounds i aQ) k:=fun k hk h=>I.no k hk (dd (by omega) h);have seen:ZK i N A S d last V base o a x:=⟨fun j u hj hu=>dN (by rw [I.kp j hj]; exact hu),fun e he hb hA' hS' hl=>by
   obtain⟨h1,h2⟩:=hvs e.on (by have:=hon e he hb; omega) hS' (oK e he hb);rw [dN h1];refine h2 hA' ?_;rcases hl with hl|hl
   ·rw [hl]; exact hnd
   ·exact I.no _ hl⟩
  have aek:i≠S->∀ v x',aK x.heap.size x x'->(i≠A->V i v x')->(i=A->∃ bb,v=aj (U ⟨bb,0,X⟩)/\W.heap.size<=bb/\dK x' bb zero t)->InX l N A S C d last V t zero cof base W (L.setIfInBounds i aQ) (a.put (U (d i)) v) x':=by
   intro Rj v x' hb hpv hpa;have self:(a.put (U (d i)) v).tmps[d i]?=U v:=by
    have h5:d i<a.tmps.size:=by rw [I.sz]; exact hs i hiN
    simp [Act.put,h5]
   have keep:∀ k,k<N->k≠S->k≠i->(a.put (U (d i)) v).tmps[d k]?=a.tmps[d k]?:=fun k hk Yi hki=>get_put _ _ _ _ (fun e=>hki (hinj _ _ hk hiN Yi Rj e));refine⟨cl',no',I.df,by rw [size_put]; exact I.sz,fun j hj=>?_,I.vB.trans (hb.mono I.vB.size),⟨fun k=>if k=i then v else vs k,fun k hk Yi hdn=>?_⟩,fun h1 h2=>?_,fun h1=>?_⟩
   ·rw [get_put _ _ _ _ (fun e=>hj i hiN e.symm)];exact I.kp j hj
   ·by_cases e:k=i
    ·subst e;simp only [if_true];exact⟨self,fun h3 _=>hpv h3⟩
    ·simp only [if_neg e];obtain⟨h3,h4⟩:=hvs k hk Yi (dd e hdn);exact⟨by rw [keep k hk Yi e]; exact h3,fun h5 h6=>hV k _ _ _ hk (h4 h5 (fun h=>h6 (du h))) hb⟩
   ·by_cases e:A=i
    ·subst e;obtain⟨bb,rfl,h4,h5⟩:=hpa rfl;exact⟨bb,self,h4,h5⟩
    ·obtain⟨bb,h3,h4,h5⟩:=I.box (dd e h1) (fun h=>h2 (du h));exact⟨bb,by rw [keep A hA hAS e]; exact h3,h4,h5.on hb⟩
   ·have h2:=dd (Ne.symm Rj) h1;obtain⟨bb,u,h5,h6,h7,h8,h9⟩:=I.fin h2;obtain⟨oS,acF⟩:∃ oS,l[S]?=U oS:=⟨_,List.getElem?_eq_getElem (by omega)⟩;obtain⟨⟨ea,k1,k2,k3⟩,ec,k4,k5,k6⟩:=hw oS acF;have dA:=I.cl S oS h2 acF ea k1 k2;have dC:=I.cl S oS h2 acF ec k4 k5;rw [k3] at dA;rw [k6] at dC;have eA:A≠i:=fun e=>hnd (e ▸ dA);have eC:C≠i:=fun e=>hnd (e ▸ dC);exact⟨bb,u,by rw [keep A hA hAS eA]; exact h5,by rw [keep C hC hCS eC]; exact h6,h7,h8.on hb,hV C _ _ _ hC h9 hb⟩
  by_cases Rj:i=S
  ·subst Rj;obtain⟨⟨ea,h1,h2,h3⟩,ec,h4,h5,h6⟩:=hw o ho;have dA:=oK ea h1 h2;have dC:=oK ec h4 h5;rw [h3] at dA;rw [h6] at dC;obtain⟨v1,v2⟩:=hvs C hC hCS dC;obtain⟨bb,b1,b2,b3⟩:=I.box dA hnd;have vC:=v2 (Ne.symm hAC) (I.no _ hlC);refine hoS o ho a x bb (vs C) (done L) I.cl oK I.vB (dN b1) (dN v1) vC b2 b3 _ (fun x' q1 q2 q3=>⟨cl',no',I.df,I.sz,I.kp,q1,⟨vs,fun k hk Yi hdn=>?_⟩,fun _ hn=>absurd ((iw C9 _).2 (bY rfl)) hn,fun _=>⟨bb,vs C,b1,v1,b2,q2,?_⟩⟩)
   ·obtain⟨w1,w2⟩:=hvs k hk Yi (dd Yi hdn);refine⟨w1,fun hkA hnl=>?_⟩;have n1:last k≠i:=fun e=>hnl ((iw C9 _).2 (bY e));have n2:¬ done L (last k):=fun e=>hnl (du e);exact q3 k _ hk hkA Yi (dd Yi hdn) n2 n1 (w2 hkA n2)
   ·exact q3 C _ hC (Ne.symm hAC) hCS dC (I.no _ hlC) (by omega) vC
  ·by_cases ZM:i=A
   ·subst ZM;refine hoA o ho a x _ (aek Rj _ _ ((Z _ _).alloc (au _) _) (fun h=>absurd rfl h) (fun _=>⟨x.heap.size,rfl,I.vB.size,dJ x zero t⟩))
   ·refine hop i o hiN ZM Rj ho a x I.vB seen _ (fun v x' q1 q2=>aek Rj v x' q2 (fun _=>q1) (fun e=>absurd e ZM))
 ·intro L a x I hd;have dS:=hd S (by omega);obtain⟨bb,v,h1,h2,h3,h4,h5⟩:=I.fin dS;obtain⟨vs,hvs⟩:=I.val;exact hend a x bb v I.df I.sz I.kp h1 h2 h3 h4 h5 I.vB ⟨vs,fun i hi Rj ZM=>by
   obtain⟨k1,k2⟩:=hvs i hi Rj (hd i (by omega));exact⟨k1,fun hl=>k2 ZM (I.no _ hl)⟩⟩
end Rg
end Go.Proofs.YtmklifheakemeaaGreat
