/-
  The document's own H. Conditions as told.
-/
import Derived.Test.YtkcfgbddlpomgaaBQ007
import Derived.Lib.Strings
import Derived.Test.YtkcfgbddlpomgaaBQ006
import Derived.Laws.Cover3
set_option maxRecDepth 100000
set_option maxHeartbeats 64000000
open _root_.Go renaming World->Z,Value->ay,Addr->aA,Calls->aB
open Go.Builtin renaming append_->V
open Go.Ending renaming returned->K
open Go.Obj renaming cells->aj
open Go.Proofs.Try renaming prog->J,ntmps15->aC,ntmps28->aD,ntmps29->aF,ntmps30->aG,ntmps31->aH,ntmps32->aI,func15->aJ,func28->aK,func29->aL,func30->aM,func31->aN,func32->aO
open Go.Proofs.Ytkcfgbddlpomgaa.Rw renaming wpList_append_run->U
open Go.RowKit renaming Below->ak
open Go.RowKit.Below renaming refl->ah
open Go.Value renaming slice->D,bool->X,string->au,int->aP
open _root_.Nat renaming le_refl->Y
open _root_.Option renaming none->L,some->O
namespace Go.Proofs.Ytkcfgbddlpomgaa
namespace Rl
open Go.RowKit Pu Rw Pr Va
theorem pJ {α:Type} (f:α->Bool) (l:List α) (k:Nat) (y:α) (h:l[k]?=O y):(l.take (k+1)).all f=((l.take k).all f && f y):=by
 rw [List.take_add_one,h,List.all_append];simp
theorem sF {α:Type} (f:α->Bool) (l:List α) (k:Nat) (y:α) (h:l[k]?=O y) (hf:f y=false):l.all f=false:=by
 rw [List.all_eq_false];exact⟨y,List.mem_of_getElem? h,by simp [hf]⟩
end Rl
namespace At
open Go.RowKit Va
abbrev A4:=ByteArray×Bool×Int×ByteArray
abbrev av (x:A4):ay:=.agg #[au x.1,X x.2.1,aP .i64 x.2.2.1,au x.2.2.2]
def qU (x:A4):List ay:=[au x.1,X x.2.1,aP .i64 x.2.2.1,au x.2.2.2]
def kS:List A4->List ay
 | []=>[]
 | x::r=>.string x.1::X x.2.1::aP .i64 x.2.2.1::au x.2.2.2::kS r
theorem pK:∀ (l:List A4) (m:Nat) (x:A4),l[m]?=O x->(kS l)[m * 4]?=O (au x.1)/\(kS l)[m * 4+1]?=O (X x.2.1)/\(kS l)[m * 4+2]?=O (aP .i64 x.2.2.1)/\(kS l)[m * 4+3]?=O (au x.2.2.2)
 | [],m,x,h=>by simp at h
 | y::r,0,x,h=>by
  simp at h;subst h;exact⟨rfl,rfl,rfl,rfl⟩
 | y::r,m+1,x,h=>by
  have h2:=pK r m x (by simpa using h);rw [show (m+1) * 4=m * 4+1+1+1+1 by omega,show m * 4+1+1+1+1+2=m * 4+2+1+1+1+1 by omega,show m * 4+1+1+1+1+3=m * 4+3+1+1+1+1 by omega];exact h2
theorem add_add (a:aA) (i j:Nat):(a.add i).add j=a.add (i+j):=by
 unfold Addr.add;by_cases hi:i=0 <;> by_cases hj:j=0 <;> simp [hi,hj,Nat.add_assoc]
def oF (W:Z) (lv:ay) (l:List A4):Prop :=
 (l=[]/\lv=D L 0 0)\/∃ (a:aA) (cap:Nat),lv=D (O a) l.length cap/\l.length<=cap/\cap<=maxLen/\∀ j u,(kS l)[j]?=O u->W.cell? (a.add j)=O u
theorem oF.on {W W':Z} {lv:ay} {l:List A4} (h:oF W lv l) (hb:ak W.heap.size W W'):oF W' lv l:=by
 rcases h with h|⟨a,cap,h1,h2,h3,h5⟩
 ·exact Or.inl h
 ·exact Or.inr ⟨a,cap,h1,h2,h3,fun j u hj=>by
   have hc:=h5 j u hj;rw [hb.cell (World.block_lt_of_cell? W _ hc)]; exact hc⟩
theorem oF.len {W:Z} {lv:ay} {l:List A4} (h:oF W lv l):∃ ao cap,lv=D ao l.length cap:=by
 rcases h with⟨rfl,rfl⟩|⟨a,cap,rfl,_⟩
 ·exact⟨L,0,rfl⟩
 ·exact⟨_,cap,rfl⟩
theorem lt_of_heap {w:Z} {b:Nat} {o:Obj} (h:w.heap[b]?=O o):b<w.heap.size:=by
 rcases Nat.lt_or_ge b w.heap.size with h0|h0
 ·exact h0
 ·simp [Array.getElem?_eq_none h0] at h
theorem qV (a:aA) (m len cap:Nat) (h:m<len) (w:Z):(Instr.indexAt 46 (D (O a) len cap) (aP .i64 m)).run J w=.ok (.pointer (O (a.add (m * 4)))) w:=by
 have h1:(m:Int)<len:=by omega
 simp [go_sem,Try.underlying46,h1]
end At
namespace Av
open Go.RowKit Rw Ytkcfgbddlpomgaa.Nm Pr Bk Rg
theorem wS (a:Option aA) (n c:Nat) (w:Z):(binOp .eql 24 (D a n c) (D L 0 0)).run J w=.ok (X a.isNone) w:=by
 simp [go_sem,binOp,run_equal_slice_nil (P:=J) w 24 3 a n c Try.underlying24]
theorem lK (v:Sl) (l:List Int) (w:Z) (hv:Row EI w (dz v) l) (hl:l.length<=900) :
  aB J 15 #[dz v] w fun e w'=>(∃ v':Sl,e=K (dz v')/\Own EI w' w.heap.size (dz v') l)/\ak w.heap.size w w':=by
 obtain⟨vo,vn,vc⟩:=v;rcases hv with⟨rfl,hv⟩|⟨a,cap,hv,h1,h2,h3⟩
 ·obtain⟨rfl,rfl,rfl⟩:vo=L/\vn=0/\vc=0:=by simpa using hv
  clear hv hl;have q:∀ w',(binOp .eql 24 (D L 0 0) (D L 0 0)).run J w'=.ok (X true) w':=fun w'=>wS L 0 0 w';go_enter aJ,aC;go_wp2;go_ret;exact⟨⟨(L,0,0),rfl,eG _ _⟩,ah _ _⟩
 ·obtain⟨rfl,rfl,rfl⟩:vo=O a/\vn=l.length/\vc=cap:=by simpa using hv
  have hx:Row EI w (D (O a) l.length vc) l:=Or.inr ⟨a,vc,rfl,h1,h2,h3⟩;have n0:=fK w (aj #[] 3);obtain⟨q0,w0,r0,o0,g0⟩:=gF Nm.wH w.heap.size (dB w #[] 3) (Y _) (hx.on n0) (by omega) 24;obtain⟨v1,v3,hv1⟩:=(Row.dw o0).len;obtain⟨n,hn⟩:∃ n,n=l.length:=⟨_,rfl⟩;have Q:=Lib.hid (show (∃ v':Sl,K q0=K (dz v')/\Own EI w0 w.heap.size (dz v') l)/\ak w.heap.size w w0 from ⟨⟨(v1,l.length,v3),by rw [hv1],by subst hv1; exact o0⟩,n0.trans (g0.mono n0.size)⟩);rw [<- hn] at r0 ⊢;clear hv h1 h2 h3 hx o0 g0 n0 hv1 hn hl;have q:∀ w',(binOp .eql 24 (D (O a) n vc) (D L 0 0)).run J w'=.ok (X false) w':=fun w'=>wS (O a) n vc w';have r0:(V #[24,24] 24 #[D (O ⟨w.heap.size,0,L⟩) 0 0,D (O a) n vc]).run J (w.alloc (aj #[] 3))=.ok q0 w0:=r0;go_enter aJ,aC;go_wp2_with (first | (at_builtin; refine U rfl _ _ 24 rfl rfl rfl r0 ?_) | fail);go_ret;exact Q.out
theorem wT (a:Option aA) (n c:Nat) (w:Z):(binOp .eql 26 (D a n c) (D L 0 0)).run J w=.ok (X a.isNone) w:=by
 simp [go_sem,binOp,run_equal_slice_nil (P:=J) w 26 23 a n c Try.underlying26]
theorem qW (v:Sl) (l:List dI) (w:Z) (hv:Row EJ w (dz v) l) (hl:l.length<=900) :
  aB J 28 #[dz v] w fun e w'=>(∃ v':Sl,e=K (dz v')/\Own EJ w' w.heap.size (dz v') l)/\ak w.heap.size w w':=by
 obtain⟨vo,vn,vc⟩:=v;rcases hv with⟨rfl,hv⟩|⟨a,cap,hv,h1,h2,h3⟩
 ·obtain⟨rfl,rfl,rfl⟩:vo=L/\vn=0/\vc=0:=by simpa using hv
  clear hv hl;have q:∀ w',(binOp .eql 26 (D L 0 0) (D L 0 0)).run J w'=.ok (X true) w':=fun w'=>wT L 0 0 w';go_enter aK,aD;go_wp2;go_ret;exact⟨⟨(L,0,0),rfl,eG _ _⟩,ah _ _⟩
 ·obtain⟨rfl,rfl,rfl⟩:vo=O a/\vn=l.length/\vc=cap:=by simpa using hv
  have hx:Row EJ w (D (O a) l.length vc) l:=Or.inr ⟨a,vc,rfl,h1,h2,h3⟩;have n0:=fK w (aj #[] 23);obtain⟨q0,w0,r0,o0,g0⟩:=gF qI w.heap.size (dB w #[] 23) (Y _) (hx.on n0) (by omega) 26;obtain⟨v1,v3,hv1⟩:=(Row.dw o0).len;obtain⟨n,hn⟩:∃ n,n=l.length:=⟨_,rfl⟩;have Q:=Lib.hid (show (∃ v':Sl,K q0=K (dz v')/\Own EJ w0 w.heap.size (dz v') l)/\ak w.heap.size w w0 from ⟨⟨(v1,l.length,v3),by rw [hv1],by subst hv1; exact o0⟩,n0.trans (g0.mono n0.size)⟩);rw [<- hn] at r0 ⊢;clear hv h1 h2 h3 hx o0 g0 n0 hv1 hn hl;have q:∀ w',(binOp .eql 26 (D (O a) n vc) (D L 0 0)).run J w'=.ok (X false) w':=fun w'=>wT (O a) n vc w';have r0:(V #[26,26] 26 #[D (O ⟨w.heap.size,0,L⟩) 0 0,D (O a) n vc]).run J (w.alloc (aj #[] 23))=.ok q0 w0:=r0;go_enter aK,aD;go_wp2_with (first | (at_builtin; refine U rfl _ _ 26 rfl rfl rfl r0 ?_) | fail);go_ret;exact Q.out
theorem wU (a:Option aA) (n c:Nat) (w:Z):(binOp .eql 25 (D a n c) (D L 0 0)).run J w=.ok (X a.isNone) w:=by
 simp [go_sem,binOp,run_equal_slice_nil (P:=J) w 25 36 a n c Try.underlying25]
theorem qX (v:Sl) (l:List gD) (w:Z) (hv:Row ED w (dz v) l) (hl:l.length<=900) :
  aB J 29 #[dz v] w fun e w'=>(∃ v':Sl,e=K (dz v')/\Own ED w' w.heap.size (dz v') l)/\ak w.heap.size w w':=by
 obtain⟨vo,vn,vc⟩:=v;rcases hv with⟨rfl,hv⟩|⟨a,cap,hv,h1,h2,h3⟩
 ·obtain⟨rfl,rfl,rfl⟩:vo=L/\vn=0/\vc=0:=by simpa using hv
  clear hv hl;have q:∀ w',(binOp .eql 25 (D L 0 0) (D L 0 0)).run J w'=.ok (X true) w':=fun w'=>wU L 0 0 w';go_enter aL,aF;go_wp2;go_ret;exact⟨⟨(L,0,0),rfl,eG _ _⟩,ah _ _⟩
 ·obtain⟨rfl,rfl,rfl⟩:vo=O a/\vn=l.length/\vc=cap:=by simpa using hv
  have hx:Row ED w (D (O a) l.length vc) l:=Or.inr ⟨a,vc,rfl,h1,h2,h3⟩;have n0:=fK w (aj #[] 36);obtain⟨q0,w0,r0,o0,g0⟩:=gF okD w.heap.size (dB w #[] 36) (Y _) (hx.on n0) (by omega) 25;obtain⟨v1,v3,hv1⟩:=(Row.dw o0).len;obtain⟨n,hn⟩:∃ n,n=l.length:=⟨_,rfl⟩;have Q:=Lib.hid (show (∃ v':Sl,K q0=K (dz v')/\Own ED w0 w.heap.size (dz v') l)/\ak w.heap.size w w0 from ⟨⟨(v1,l.length,v3),by rw [hv1],by subst hv1; exact o0⟩,n0.trans (g0.mono n0.size)⟩);rw [<- hn] at r0 ⊢;clear hv h1 h2 h3 hx o0 g0 n0 hv1 hn hl;have q:∀ w',(binOp .eql 25 (D (O a) n vc) (D L 0 0)).run J w'=.ok (X false) w':=fun w'=>wU (O a) n vc w';have r0:(V #[25,25] 25 #[D (O ⟨w.heap.size,0,L⟩) 0 0,D (O a) n vc]).run J (w.alloc (aj #[] 36))=.ok q0 w0:=r0;go_enter aL,aF;go_wp2_with (first | (at_builtin; refine U rfl _ _ 25 rfl rfl rfl r0 ?_) | fail);go_ret;exact Q.out
theorem wV (a:Option aA) (n c:Nat) (w:Z):(binOp .eql 27 (D a n c) (D L 0 0)).run J w=.ok (X a.isNone) w:=by
 simp [go_sem,binOp,run_equal_slice_nil (P:=J) w 27 41 a n c Try.underlying27]
theorem qY (v:Sl) (l:List gq) (w:Z) (hv:Row EN w (dz v) l) (hl:l.length<=900) :
  aB J 30 #[dz v] w fun e w'=>(∃ v':Sl,e=K (dz v')/\Own EN w' w.heap.size (dz v') l)/\ak w.heap.size w w':=by
 obtain⟨vo,vn,vc⟩:=v;rcases hv with⟨rfl,hv⟩|⟨a,cap,hv,h1,h2,h3⟩
 ·obtain⟨rfl,rfl,rfl⟩:vo=L/\vn=0/\vc=0:=by simpa using hv
  clear hv hl;have q:∀ w',(binOp .eql 27 (D L 0 0) (D L 0 0)).run J w'=.ok (X true) w':=fun w'=>wV L 0 0 w';go_enter aM,aG;go_wp2;go_ret;exact⟨⟨(L,0,0),rfl,eG _ _⟩,ah _ _⟩
 ·obtain⟨rfl,rfl,rfl⟩:vo=O a/\vn=l.length/\vc=cap:=by simpa using hv
  have hx:Row EN w (D (O a) l.length vc) l:=Or.inr ⟨a,vc,rfl,h1,h2,h3⟩;have n0:=fK w (aj #[] 41);obtain⟨q0,w0,r0,o0,g0⟩:=gF ko w.heap.size (dB w #[] 41) (Y _) (hx.on n0) (by omega) 27;obtain⟨v1,v3,hv1⟩:=(Row.dw o0).len;obtain⟨n,hn⟩:∃ n,n=l.length:=⟨_,rfl⟩;have Q:=Lib.hid (show (∃ v':Sl,K q0=K (dz v')/\Own EN w0 w.heap.size (dz v') l)/\ak w.heap.size w w0 from ⟨⟨(v1,l.length,v3),by rw [hv1],by subst hv1; exact o0⟩,n0.trans (g0.mono n0.size)⟩);rw [<- hn] at r0 ⊢;clear hv h1 h2 h3 hx o0 g0 n0 hv1 hn hl;have q:∀ w',(binOp .eql 27 (D (O a) n vc) (D L 0 0)).run J w'=.ok (X false) w':=fun w'=>wV (O a) n vc w';have r0:(V #[27,27] 27 #[D (O ⟨w.heap.size,0,L⟩) 0 0,D (O a) n vc]).run J (w.alloc (aj #[] 41))=.ok q0 w0:=r0;go_enter aM,aG;go_wp2_with (first | (at_builtin; refine U rfl _ _ 27 rfl rfl rfl r0 ?_) | fail);go_ret;exact Q.out
theorem wW (a:Option aA) (n c:Nat) (w:Z):(binOp .eql 28 (D a n c) (D L 0 0)).run J w=.ok (X a.isNone) w:=by
 simp [go_sem,binOp,run_equal_slice_nil (P:=J) w 28 84 a n c Try.underlying28]
theorem qZ (v:Sl) (l:List lg) (w:Z) (hv:Row EW w (dz v) l) (hl:l.length<=900) :
  aB J 31 #[dz v] w fun e w'=>(∃ v':Sl,e=K (dz v')/\Own EW w' w.heap.size (dz v') l)/\ak w.heap.size w w':=by
 obtain⟨vo,vn,vc⟩:=v;rcases hv with⟨rfl,hv⟩|⟨a,cap,hv,h1,h2,h3⟩
 ·obtain⟨rfl,rfl,rfl⟩:vo=L/\vn=0/\vc=0:=by simpa using hv
  clear hv hl;have q:∀ w',(binOp .eql 28 (D L 0 0) (D L 0 0)).run J w'=.ok (X true) w':=fun w'=>wW L 0 0 w';go_enter aN,aH;go_wp2;go_ret;exact⟨⟨(L,0,0),rfl,eG _ _⟩,ah _ _⟩
 ·obtain⟨rfl,rfl,rfl⟩:vo=O a/\vn=l.length/\vc=cap:=by simpa using hv
  have hx:Row EW w (D (O a) l.length vc) l:=Or.inr ⟨a,vc,rfl,h1,h2,h3⟩;have n0:=fK w (aj #[] 84);obtain⟨q0,w0,r0,o0,g0⟩:=gF okW w.heap.size (dB w #[] 84) (Y _) (hx.on n0) (by omega) 28;obtain⟨v1,v3,hv1⟩:=(Row.dw o0).len;obtain⟨n,hn⟩:∃ n,n=l.length:=⟨_,rfl⟩;have Q:=Lib.hid (show (∃ v':Sl,K q0=K (dz v')/\Own EW w0 w.heap.size (dz v') l)/\ak w.heap.size w w0 from ⟨⟨(v1,l.length,v3),by rw [hv1],by subst hv1; exact o0⟩,n0.trans (g0.mono n0.size)⟩);rw [<- hn] at r0 ⊢;clear hv h1 h2 h3 hx o0 g0 n0 hv1 hn hl;have q:∀ w',(binOp .eql 28 (D (O a) n vc) (D L 0 0)).run J w'=.ok (X false) w':=fun w'=>wW (O a) n vc w';have r0:(V #[28,28] 28 #[D (O ⟨w.heap.size,0,L⟩) 0 0,D (O a) n vc]).run J (w.alloc (aj #[] 84))=.ok q0 w0:=r0;go_enter aN,aH;go_wp2_with (first | (at_builtin; refine U rfl _ _ 28 rfl rfl rfl r0 ?_) | fail);go_ret;exact Q.out
theorem q8 (a:Option aA) (n c:Nat) (w:Z):(binOp .eql 34 (D a n c) (D L 0 0)).run J w=.ok (X a.isNone) w:=by
 simp [go_sem,binOp,run_equal_slice_nil (P:=J) w 34 38 a n c Try.underlying34]
theorem iK (v:Sl) (l:List C5) (w:Z) (hv:Row EC w (dz v) l) (hl:l.length<=900) :
  aB J 32 #[dz v] w fun e w'=>(∃ v':Sl,e=K (dz v')/\Own EC w' w.heap.size (dz v') l)/\ak w.heap.size w w':=by
 obtain⟨vo,vn,vc⟩:=v;rcases hv with⟨rfl,hv⟩|⟨a,cap,hv,h1,h2,h3⟩
 ·obtain⟨rfl,rfl,rfl⟩:vo=L/\vn=0/\vc=0:=by simpa using hv
  clear hv hl;have q:∀ w',(binOp .eql 34 (D L 0 0) (D L 0 0)).run J w'=.ok (X true) w':=fun w'=>q8 L 0 0 w';go_enter aO,aI;go_wp2;go_ret;exact⟨⟨(L,0,0),rfl,eG _ _⟩,ah _ _⟩
 ·obtain⟨rfl,rfl,rfl⟩:vo=O a/\vn=l.length/\vc=cap:=by simpa using hv
  have hx:Row EC w (D (O a) l.length vc) l:=Or.inr ⟨a,vc,rfl,h1,h2,h3⟩;have n0:=fK w (aj #[] 38);obtain⟨q0,w0,r0,o0,g0⟩:=gF Aw w.heap.size (dB w #[] 38) (Y _) (hx.on n0) (by omega) 34;obtain⟨v1,v3,hv1⟩:=(Row.dw o0).len;obtain⟨n,hn⟩:∃ n,n=l.length:=⟨_,rfl⟩;have Q:=Lib.hid (show (∃ v':Sl,K q0=K (dz v')/\Own EC w0 w.heap.size (dz v') l)/\ak w.heap.size w w0 from ⟨⟨(v1,l.length,v3),by rw [hv1],by subst hv1; exact o0⟩,n0.trans (g0.mono n0.size)⟩);rw [<- hn] at r0 ⊢;clear hv h1 h2 h3 hx o0 g0 n0 hv1 hn hl;have q:∀ w',(binOp .eql 34 (D (O a) n vc) (D L 0 0)).run J w'=.ok (X false) w':=fun w'=>q8 (O a) n vc w';have r0:(V #[34,34] 34 #[D (O ⟨w.heap.size,0,L⟩) 0 0,D (O a) n vc]).run J (w.alloc (aj #[] 38))=.ok q0 w0:=r0;go_enter aO,aI;go_wp2_with (first | (at_builtin; refine U rfl _ _ 34 rfl rfl rfl r0 ?_) | fail);go_ret;exact Q.out
end Av
end Go.Proofs.Ytkcfgbddlpomgaa
