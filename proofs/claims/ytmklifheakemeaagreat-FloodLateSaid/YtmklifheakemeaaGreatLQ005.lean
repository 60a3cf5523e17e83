/-
  slices.Clone of rows. Conditions as told.
-/
import Derived.Test.YtmklifheakemeaaGreatLQ004
import Derived.Laws.Cover3
import Derived.Lib.QuietBelow
import Derived.BigQuiet
set_option maxRecDepth 100000
set_option maxHeartbeats 64000000
open _root_.Go renaming World->ak,Calls->ay,Addr->aN
open Go.Builtin renaming append_->V
open Go.Ending renaming returned->K
open Go.Lib renaming hid->O
open Go.Obj renaming cells->Y
open Go.Proofs.Tryz renaming prog->D,ntmps140->aA,ntmps141->aB,ntmps142->aC,ntmps143->aD,ntmps123->aF,ntmps32->aG,func140->aH,func141->aI,func142->aJ,func143->aK,func123->aL,func32->aM
open Go.RowKit renaming Below->aj
open Go.RowKit.Below renaming refl->Z
open Go.Value renaming slice->J,bool->X,int->au
open _root_.Nat renaming le_refl->ah
open _root_.Option renaming none->L,some->U
namespace Go.Proofs.YtmklifheakemeaaGreat
namespace Av
open Go.RowKit Rw YtmklifheakemeaaGreat.Nm Pr Bk Rg
theorem KH (a:Option aN) (n c:Nat) (w:ak):(binOp .eql 22 (J a n c) (J L 0 0)).run D w=.ok (X a.isNone) w:=by
 simp [go_sem,binOp,run_equal_slice_nil (P:=D) w 22 3 a n c Tryz.underlying22]
theorem vg (v:Sl) (l:List Int) (w:ak) (hv:Row EI w (dO v) l) (hl:l.length<=900) :
  ay D 32 #[dO v] w fun e w'=>(∃ v':Sl,e=K (dO v')/\Own EI w' w.heap.size (dO v') l)/\aj w.heap.size w w':=by
 obtain⟨vo,vn,vc⟩:=v;rcases hv with⟨rfl,hv⟩|⟨a,cap,hv,h1,h2,h3⟩
 ·obtain⟨rfl,rfl,rfl⟩:vo=L/\vn=0/\vc=0:=by simpa using hv
  clear hv hl;have q:∀ w',(binOp .eql 22 (J L 0 0) (J L 0 0)).run D w'=.ok (X true) w':=fun w'=>KH L 0 0 w';go_enter aM,aG;go_wp2;go_ret;exact⟨⟨(L,0,0),rfl,jg _ _⟩,Z _ _⟩
 ·obtain⟨rfl,rfl,rfl⟩:vo=U a/\vn=l.length/\vc=cap:=by simpa using hv
  have hx:Row EI w (J (U a) l.length vc) l:=Or.inr ⟨a,vc,rfl,h1,h2,h3⟩;have n0:=gM w (Y #[] 3);obtain⟨q0,w0,r0,o0,g0⟩:=jW Nm.Qh w.heap.size (dL w #[] 3) (ah _) (hx.on n0) (by omega) 22;obtain⟨v1,v3,hv1⟩:=(Row.dG o0).len;obtain⟨n,hn⟩:∃ n,n=l.length:=⟨_,rfl⟩;have Q:=O (show (∃ v':Sl,K q0=K (dO v')/\Own EI w0 w.heap.size (dO v') l)/\aj w.heap.size w w0 from ⟨⟨(v1,l.length,v3),by rw [hv1],by subst hv1; exact o0⟩,n0.trans (g0.mono n0.size)⟩);rw [<- hn] at r0 ⊢;clear hv h1 h2 h3 hx o0 g0 n0 hv1 hn hl;have q:∀ w',(binOp .eql 22 (J (U a) n vc) (J L 0 0)).run D w'=.ok (X false) w':=fun w'=>KH (U a) n vc w';have r0:(V #[22,22] 22 #[J (U ⟨w.heap.size,0,L⟩) 0 0,J (U a) n vc]).run D (w.alloc (Y #[] 3))=.ok q0 w0:=r0;go_enter aM,aG;go_wp2_with (first | (at_builtin; refine wpList_append_run rfl _ _ 22 rfl rfl rfl r0 ?_) | fail);go_ret;exact Q.out
theorem KJ (a:Option aN) (n c:Nat) (w:ak):(binOp .eql 24 (J a n c) (J L 0 0)).run D w=.ok (X a.isNone) w:=by
 simp [go_sem,binOp,run_equal_slice_nil (P:=D) w 24 31 a n c Tryz.underlying24]
theorem D9 (v:Sl) (l:List fB) (w:ak) (hv:Row EJ w (dO v) l) (hl:l.length<=900) :
  ay D 140 #[dO v] w fun e w'=>(∃ v':Sl,e=K (dO v')/\Own EJ w' w.heap.size (dO v') l)/\aj w.heap.size w w':=by
 obtain⟨vo,vn,vc⟩:=v;rcases hv with⟨rfl,hv⟩|⟨a,cap,hv,h1,h2,h3⟩
 ·obtain⟨rfl,rfl,rfl⟩:vo=L/\vn=0/\vc=0:=by simpa using hv
  clear hv hl;have q:∀ w',(binOp .eql 24 (J L 0 0) (J L 0 0)).run D w'=.ok (X true) w':=fun w'=>KJ L 0 0 w';go_enter aH,aA;go_wp2;go_ret;exact⟨⟨(L,0,0),rfl,jg _ _⟩,Z _ _⟩
 ·obtain⟨rfl,rfl,rfl⟩:vo=U a/\vn=l.length/\vc=cap:=by simpa using hv
  have hx:Row EJ w (J (U a) l.length vc) l:=Or.inr ⟨a,vc,rfl,h1,h2,h3⟩;have n0:=gM w (Y #[] 31);obtain⟨q0,w0,r0,o0,g0⟩:=jW DI w.heap.size (dL w #[] 31) (ah _) (hx.on n0) (by omega) 24;obtain⟨v1,v3,hv1⟩:=(Row.dG o0).len;obtain⟨n,hn⟩:∃ n,n=l.length:=⟨_,rfl⟩;have Q:=O (show (∃ v':Sl,K q0=K (dO v')/\Own EJ w0 w.heap.size (dO v') l)/\aj w.heap.size w w0 from ⟨⟨(v1,l.length,v3),by rw [hv1],by subst hv1; exact o0⟩,n0.trans (g0.mono n0.size)⟩);rw [<- hn] at r0 ⊢;clear hv h1 h2 h3 hx o0 g0 n0 hv1 hn hl;have q:∀ w',(binOp .eql 24 (J (U a) n vc) (J L 0 0)).run D w'=.ok (X false) w':=fun w'=>KJ (U a) n vc w';have r0:(V #[24,24] 24 #[J (U ⟨w.heap.size,0,L⟩) 0 0,J (U a) n vc]).run D (w.alloc (Y #[] 31))=.ok q0 w0:=r0;go_enter aH,aA;go_wp2_with (first | (at_builtin; refine wpList_append_run rfl _ _ 24 rfl rfl rfl r0 ?_) | fail);go_ret;exact Q.out
theorem KN (a:Option aN) (n c:Nat) (w:ak):(binOp .eql 23 (J a n c) (J L 0 0)).run D w=.ok (X a.isNone) w:=by
 simp [go_sem,binOp,run_equal_slice_nil (P:=D) w 23 74 a n c Tryz.underlying23]
theorem Ea (v:Sl) (l:List jk) (w:ak) (hv:Row ED w (dO v) l) (hl:l.length<=900) :
  ay D 141 #[dO v] w fun e w'=>(∃ v':Sl,e=K (dO v')/\Own ED w' w.heap.size (dO v') l)/\aj w.heap.size w w':=by
 obtain⟨vo,vn,vc⟩:=v;rcases hv with⟨rfl,hv⟩|⟨a,cap,hv,h1,h2,h3⟩
 ·obtain⟨rfl,rfl,rfl⟩:vo=L/\vn=0/\vc=0:=by simpa using hv
  clear hv hl;have q:∀ w',(binOp .eql 23 (J L 0 0) (J L 0 0)).run D w'=.ok (X true) w':=fun w'=>KN L 0 0 w';go_enter aI,aB;go_wp2;go_ret;exact⟨⟨(L,0,0),rfl,jg _ _⟩,Z _ _⟩
 ·obtain⟨rfl,rfl,rfl⟩:vo=U a/\vn=l.length/\vc=cap:=by simpa using hv
  have hx:Row ED w (J (U a) l.length vc) l:=Or.inr ⟨a,vc,rfl,h1,h2,h3⟩;have n0:=gM w (Y #[] 74);obtain⟨q0,w0,r0,o0,g0⟩:=jW okD w.heap.size (dL w #[] 74) (ah _) (hx.on n0) (by omega) 23;obtain⟨v1,v3,hv1⟩:=(Row.dG o0).len;obtain⟨n,hn⟩:∃ n,n=l.length:=⟨_,rfl⟩;have Q:=O (show (∃ v':Sl,K q0=K (dO v')/\Own ED w0 w.heap.size (dO v') l)/\aj w.heap.size w w0 from ⟨⟨(v1,l.length,v3),by rw [hv1],by subst hv1; exact o0⟩,n0.trans (g0.mono n0.size)⟩);rw [<- hn] at r0 ⊢;clear hv h1 h2 h3 hx o0 g0 n0 hv1 hn hl;have q:∀ w',(binOp .eql 23 (J (U a) n vc) (J L 0 0)).run D w'=.ok (X false) w':=fun w'=>KN (U a) n vc w';have r0:(V #[23,23] 23 #[J (U ⟨w.heap.size,0,L⟩) 0 0,J (U a) n vc]).run D (w.alloc (Y #[] 74))=.ok q0 w0:=r0;go_enter aI,aB;go_wp2_with (first | (at_builtin; refine wpList_append_run rfl _ _ 23 rfl rfl rfl r0 ?_) | fail);go_ret;exact Q.out
theorem KO (a:Option aN) (n c:Nat) (w:ak):(binOp .eql 25 (J a n c) (J L 0 0)).run D w=.ok (X a.isNone) w:=by
 simp [go_sem,binOp,run_equal_slice_nil (P:=D) w 25 66 a n c Tryz.underlying25]
theorem Eb (v:Sl) (l:List gW) (w:ak) (hv:Row EN w (dO v) l) (hl:l.length<=900) :
  ay D 142 #[dO v] w fun e w'=>(∃ v':Sl,e=K (dO v')/\Own EN w' w.heap.size (dO v') l)/\aj w.heap.size w w':=by
 obtain⟨vo,vn,vc⟩:=v;rcases hv with⟨rfl,hv⟩|⟨a,cap,hv,h1,h2,h3⟩
 ·obtain⟨rfl,rfl,rfl⟩:vo=L/\vn=0/\vc=0:=by simpa using hv
  clear hv hl;have q:∀ w',(binOp .eql 25 (J L 0 0) (J L 0 0)).run D w'=.ok (X true) w':=fun w'=>KO L 0 0 w';go_enter aJ,aC;go_wp2;go_ret;exact⟨⟨(L,0,0),rfl,jg _ _⟩,Z _ _⟩
 ·obtain⟨rfl,rfl,rfl⟩:vo=U a/\vn=l.length/\vc=cap:=by simpa using hv
  have hx:Row EN w (J (U a) l.length vc) l:=Or.inr ⟨a,vc,rfl,h1,h2,h3⟩;have n0:=gM w (Y #[] 66);obtain⟨q0,w0,r0,o0,g0⟩:=jW nH w.heap.size (dL w #[] 66) (ah _) (hx.on n0) (by omega) 25;obtain⟨v1,v3,hv1⟩:=(Row.dG o0).len;obtain⟨n,hn⟩:∃ n,n=l.length:=⟨_,rfl⟩;have Q:=O (show (∃ v':Sl,K q0=K (dO v')/\Own EN w0 w.heap.size (dO v') l)/\aj w.heap.size w w0 from ⟨⟨(v1,l.length,v3),by rw [hv1],by subst hv1; exact o0⟩,n0.trans (g0.mono n0.size)⟩);rw [<- hn] at r0 ⊢;clear hv h1 h2 h3 hx o0 g0 n0 hv1 hn hl;have q:∀ w',(binOp .eql 25 (J (U a) n vc) (J L 0 0)).run D w'=.ok (X false) w':=fun w'=>KO (U a) n vc w';have r0:(V #[25,25] 25 #[J (U ⟨w.heap.size,0,L⟩) 0 0,J (U a) n vc]).run D (w.alloc (Y #[] 66))=.ok q0 w0:=r0;go_enter aJ,aC;go_wp2_with (first | (at_builtin; refine wpList_append_run rfl _ _ 25 rfl rfl rfl r0 ?_) | fail);go_ret;exact Q.out
theorem KQ (a:Option aN) (n c:Nat) (w:ak):(binOp .eql 26 (J a n c) (J L 0 0)).run D w=.ok (X a.isNone) w:=by
 simp [go_sem,binOp,run_equal_slice_nil (P:=D) w 26 34 a n c Tryz.underlying26]
theorem Ec (v:Sl) (l:List nS) (w:ak) (hv:Row EW w (dO v) l) (hl:l.length<=900) :
  ay D 143 #[dO v] w fun e w'=>(∃ v':Sl,e=K (dO v')/\Own EW w' w.heap.size (dO v') l)/\aj w.heap.size w w':=by
 obtain⟨vo,vn,vc⟩:=v;rcases hv with⟨rfl,hv⟩|⟨a,cap,hv,h1,h2,h3⟩
 ·obtain⟨rfl,rfl,rfl⟩:vo=L/\vn=0/\vc=0:=by simpa using hv
  clear hv hl;have q:∀ w',(binOp .eql 26 (J L 0 0) (J L 0 0)).run D w'=.ok (X true) w':=fun w'=>KQ L 0 0 w';go_enter aK,aD;go_wp2;go_ret;exact⟨⟨(L,0,0),rfl,jg _ _⟩,Z _ _⟩
 ·obtain⟨rfl,rfl,rfl⟩:vo=U a/\vn=l.length/\vc=cap:=by simpa using hv
  have hx:Row EW w (J (U a) l.length vc) l:=Or.inr ⟨a,vc,rfl,h1,h2,h3⟩;have n0:=gM w (Y #[] 34);obtain⟨q0,w0,r0,o0,g0⟩:=jW okW w.heap.size (dL w #[] 34) (ah _) (hx.on n0) (by omega) 26;obtain⟨v1,v3,hv1⟩:=(Row.dG o0).len;obtain⟨n,hn⟩:∃ n,n=l.length:=⟨_,rfl⟩;have Q:=O (show (∃ v':Sl,K q0=K (dO v')/\Own EW w0 w.heap.size (dO v') l)/\aj w.heap.size w w0 from ⟨⟨(v1,l.length,v3),by rw [hv1],by subst hv1; exact o0⟩,n0.trans (g0.mono n0.size)⟩);rw [<- hn] at r0 ⊢;clear hv h1 h2 h3 hx o0 g0 n0 hv1 hn hl;have q:∀ w',(binOp .eql 26 (J (U a) n vc) (J L 0 0)).run D w'=.ok (X false) w':=fun w'=>KQ (U a) n vc w';have r0:(V #[26,26] 26 #[J (U ⟨w.heap.size,0,L⟩) 0 0,J (U a) n vc]).run D (w.alloc (Y #[] 34))=.ok q0 w0:=r0;go_enter aK,aD;go_wp2_with (first | (at_builtin; refine wpList_append_run rfl _ _ 26 rfl rfl rfl r0 ?_) | fail);go_ret;exact Q.out
theorem KR (a:Option aN) (n c:Nat) (w:ak):(binOp .eql 32 (J a n c) (J L 0 0)).run D w=.ok (X a.isNone) w:=by
 simp [go_sem,binOp,run_equal_slice_nil (P:=D) w 32 70 a n c Tryz.underlying32]
theorem kE (v:Sl) (l:List C5) (w:ak) (hv:Row EC w (dO v) l) (hl:l.length<=900) :
  ay D 123 #[dO v] w fun e w'=>(∃ v':Sl,e=K (dO v')/\Own EC w' w.heap.size (dO v') l)/\aj w.heap.size w w':=by
 obtain⟨vo,vn,vc⟩:=v;rcases hv with⟨rfl,hv⟩|⟨a,cap,hv,h1,h2,h3⟩
 ·obtain⟨rfl,rfl,rfl⟩:vo=L/\vn=0/\vc=0:=by simpa using hv
  clear hv hl;have q:∀ w',(binOp .eql 32 (J L 0 0) (J L 0 0)).run D w'=.ok (X true) w':=fun w'=>KR L 0 0 w';go_enter aL,aF;go_wp2;go_ret;exact⟨⟨(L,0,0),rfl,jg _ _⟩,Z _ _⟩
 ·obtain⟨rfl,rfl,rfl⟩:vo=U a/\vn=l.length/\vc=cap:=by simpa using hv
  have hx:Row EC w (J (U a) l.length vc) l:=Or.inr ⟨a,vc,rfl,h1,h2,h3⟩;have n0:=gM w (Y #[] 70);obtain⟨q0,w0,r0,o0,g0⟩:=jW p9 w.heap.size (dL w #[] 70) (ah _) (hx.on n0) (by omega) 32;obtain⟨v1,v3,hv1⟩:=(Row.dG o0).len;obtain⟨n,hn⟩:∃ n,n=l.length:=⟨_,rfl⟩;have Q:=O (show (∃ v':Sl,K q0=K (dO v')/\Own EC w0 w.heap.size (dO v') l)/\aj w.heap.size w w0 from ⟨⟨(v1,l.length,v3),by rw [hv1],by subst hv1; exact o0⟩,n0.trans (g0.mono n0.size)⟩);rw [<- hn] at r0 ⊢;clear hv h1 h2 h3 hx o0 g0 n0 hv1 hn hl;have q:∀ w',(binOp .eql 32 (J (U a) n vc) (J L 0 0)).run D w'=.ok (X false) w':=fun w'=>KR (U a) n vc w';have r0:(V #[32,32] 32 #[J (U ⟨w.heap.size,0,L⟩) 0 0,J (U a) n vc]).run D (w.alloc (Y #[] 70))=.ok q0 w0:=r0;go_enter aL,aF;go_wp2_with (first | (at_builtin; refine wpList_append_run rfl _ _ 32 rfl rfl rfl r0 ?_) | fail);go_ret;exact Q.out
end Av
namespace Bk
open Go.RowKit Go.Sort Rw YtmklifheakemeaaGreat.Nm Pr
theorem vk (l:List Id) (x:Id) (k:Nat) (hall:∀ (j:Nat) (y:Id),j<k->l[j]?=U y->dY y x=true) (hend:k=l.length\/∃ y,l[k]?=U y/\dY y x=false):fU l x=k:=by
 unfold fU
 induction l generalizing k with
 | nil =>
  rcases hend with h|⟨y,h,_⟩
  ·rw [h]; rfl
  ·simp at h
 | cons a l ih =>
  cases k with
  | zero =>
   rcases hend with h|⟨y,h,h2⟩
   ·simp at h
   ·obtain rfl:a=y:=by simpa using h
    rw [List.takeWhile_cons,h2]
    rfl
  | succ k =>
   have h0:=hall 0 a (by omega) rfl;rw [List.takeWhile_cons,h0];simp only [if_true,List.length_cons];rw [ih k (fun j y hj hy=>hall (j+1) y (by omega) (by simpa using hy)) (by
    rcases hend with h|⟨y,h,h2⟩
    ·exact Or.inl (by simpa using h)
    ·exact Or.inr ⟨y,by simpa using h,h2⟩)]
end Bk
namespace Av
open Go.RowKit Rw YtmklifheakemeaaGreat.Nm Pr Bk
theorem qw (l:List fB) (x:fB) (h:∀ (j:Nat) (y:fB),l[j]?=U y->y≠x):fE l x=-1:=by
 induction l with
 | nil=>rfl
 | cons a l ih =>
  rw [fE,if_neg (h 0 a rfl),ih fun j y hj=>h (j+1) y (by simpa using hj),if_pos rfl]
theorem vB (l:List fB) (k:Nat) (x:fB) (h:l[k]?=U x) (hall:∀ (j:Nat) (z:fB),j<k->l[j]?=U z->z≠x):fE l x=k:=by
 induction l generalizing k with
 | nil=>simp at h
 | cons a l ih =>
  cases k with
  | zero =>
   obtain rfl:a=x:=by simpa using h
   rw [fE,if_pos rfl]
   rfl
  | succ k =>
   have h2:=ih k (by simpa using h) fun j z hj hz=>hall (j+1) z (by omega) (by simpa using hz);rw [fE,if_neg (hall 0 a (by omega) rfl),h2,if_neg (by omega)];omega
theorem Au (l:List fB) (x:fB):decide ((0:Int)<=fE l x)=decide (x∈l):=by
 induction l with
 | nil=>simp [fE]
 | cons a l ih =>
  have hb:=lC l x;rw [fE];by_cases h:a=x
  ·rw [if_pos h]; simp [h]
  ·rw [if_neg h];have h':¬ x=a:=fun e=>h e.symm;simp only [List.mem_cons,h',false_or];rw [<- ih];by_cases h2:fE l x=-1
   ·rw [if_pos h2,h2]
   ·rw [if_neg h2];have h3:0<=fE l x:=by omega
    have h4:0<=fE l x+1:=by omega
    simp [h3,h4]
theorem Jc (sv:Sl) (l:List fB) (x:fB) (w:ak) (hs:zH w (dO sv) l) :
  ay D 128 #[dO sv,nU x] w fun e w'=>e=K (au .i64 (fE l x))/\aj w.heap.size w w':=by
 obtain⟨c,d⟩:=x;obtain⟨so,sn,sc⟩:=sv;obtain⟨ao,ac,hv⟩:=hs.len;have hv:J so sn sc=J ao l.length ac:=hv;obtain⟨rfl,rfl,rfl⟩:so=ao/\sn=l.length/\sc=ac:=by simpa using hv
 have h0:=gM w (Y #[au .i64 c,au .i64 d] 31);have h2:=dL w #[au .i64 c,au .i64 d] 31;have B:=O h0;have HS:=O (hs.on h0);have X3:=O h2;have lm:=hs.most;unfold maxLen at lm;obtain⟨n,hn⟩:∃ n,n=l.length:=⟨_,rfl⟩;rw [<- hn] at HS lm ⊢;have HN:=O hn.symm;clear h0 h2 hs hv hn;go_enter Tryz.func128,Tryz.ntmps128;go_upto_region 1 with fail;generalize w.alloc (Y #[au .i64 c,au .i64 d] 31)=W at *;go_wp2
 go_loopw [8] (fun i wr=>∃ k:Nat,k<=n/\i=au .i64 k/\aj W.heap.size W wr/\∀ (j:Nat) (y:fB),j<k->l[j]?=U y->y≠(c,d)) (fun i _=>n-(intOf i).toNat)
 case atStart=>exact⟨0,Nat.zero_le _,rfl,Z _ _,fun j y h=>by omega⟩
 case round =>
  obtain⟨k,hk,rfl,hbe,hall⟩:=hrel;have BE:=O hbe;have AL:=O hall;clear hbe hall;by_cases hlt:k<n
  ·obtain⟨y,hy⟩:∃ y,l[k]?=U y:=⟨_,List.getElem?_eq_getElem (by rw [HN.out]; exact hlt)⟩;obtain⟨p,ix,px⟩:=elJ HS.out rfl HN.out hy;have DD:aj W.heap.size W wr.drew:=BE.out.drew;obtain⟨p0,p1⟩:=px wr BE.out;obtain⟨y1,y2⟩:=y;simp only at p0 p1;obtain⟨x0,x1⟩:=(X3.out.on BE.out).cs2;have hw3:IntKind.i64.wrap ((k:Int)+1)=(k:Int)+1:=IntWalk.i64_in _ (by omega);obtain⟨r,hr⟩:∃ r,(c == y1 && d == y2)=r:=⟨_,rfl⟩;have he:=qJ c d y1 y2 r hr;have DB:=O DD;have HY:=O hy;have HR:=O hr;clear px hy hr DD;cases r
   ·go_wp2_with fail
    go_quiet (fail)
    go_wp2
    go_roundw
    case rel=>exact⟨k+1,by omega,by go_num,⟨BE.out.os,BE.out.tape,BE.out.output,BE.out.size,BE.out.block⟩,fun j y' hj h1=>by
     rcases Nat.lt_or_ge j k with h3|h3
     ·exact AL.out j y' h3 h1
     ·obtain rfl:j=k:=by omega
      have e1:=HY.out;rw [h1] at e1;rw [Option.some.inj e1];intro e;obtain⟨rfl,rfl⟩:y1=c/\y2=d:=by simpa using e
      have:=HR.out;simp at this⟩
    case measure=>simp [intOf]; omega
   ·go_wp2_with fail
    go_quiet (fail)
    go_wp2;go_ret;have h8:=HR.out;obtain⟨rfl,rfl⟩:c=y1/\d=y2:=by simpa using h8
    exact⟨by rw [vB l k (c,d) HY.out AL.out]; rfl,B.out.trans (Below.mono ⟨BE.out.os,BE.out.tape,BE.out.output,BE.out.size,BE.out.block⟩ B.out.size)⟩
  ·obtain rfl:k=n:=by omega
   go_wp2;go_ret;have hd:fE l (c,d)=-1:=qw l (c,d) fun j y hj=>AL.out j y (by rw [<- HN.out]; exact (List.getElem?_eq_some_iff.1 hj).1) hj;exact⟨by rw [hd]; rfl,B.out.trans (BE.out.mono B.out.size)⟩
theorem zJ (sv:Sl) (l:List fB) (x:fB) (w:ak) (hs:zH w (dO sv) l) :
  ay D 88 #[dO sv,nU x] w fun e w'=>e=K (X (decide (x∈l)))/\aj w.heap.size w w':=by
 have h0:=gM w (Y #[au .i64 x.1,au .i64 x.2] 31);have h2:=dL w #[au .i64 x.1,au .i64 x.2] 31;have C:=Jc sv l x _ (hs.on h0);have R:=O (Au l x);obtain⟨c,d⟩:=x;obtain⟨so,sn,sc⟩:=sv;have B:=O h0;obtain⟨x0,x1⟩:=h2.cs2;generalize fE l (c,d)=r at *;generalize decide ((c,d)∈l)=s at *;clear h0 h2 hs;go_enter Tryz.func88,Tryz.ntmps88;go_wp2_with fail;refine C.mono ?_;rintro e w1 ⟨rfl,hb⟩;go_wp2;go_ret;exact⟨by have h:=R.out; subst h; rfl,B.out.trans (hb.mono B.out.size)⟩
theorem Jd (me:Int) (nv av ev ov:Value) (sv:Sl) (l:List fB) (x:fB) (w:ak) (hs:zH w (dO sv) l) :
  ay D 31 #[.agg #[au .i64 me,nv,av,dO sv,ev,ov],nU x] w fun e w'=>e=K (X (decide (x∈l)))/\aj w.heap.size w w':=by
 obtain⟨h0,h1,h2⟩:=gT w #[au .i64 me,nv,av,dO sv,ev,ov] #[au .i64 x.1,au .i64 x.2] 28 31;have C:=zJ sv l x _ (hs.on h0);obtain⟨c,d⟩:=x;obtain⟨so,sn,sc⟩:=sv;have B:=O h0;have b3:=h1.cell 3;obtain⟨x0,x1⟩:=h2.cs2;simp only [List.getElem?_toArray,List.getElem?_cons_zero,List.getElem?_cons_succ] at b3;generalize decide ((c,d)∈l)=s at *;clear h0 h1 h2 hs;go_enter Tryz.func31,Tryz.ntmps31;go_wp2_with fail;refine C.mono ?_;rintro e w1 ⟨rfl,hb⟩;go_wp2;go_ret;exact⟨rfl,B.out.trans (hb.mono B.out.size)⟩
end Av
end Go.Proofs.YtmklifheakemeaaGreat
