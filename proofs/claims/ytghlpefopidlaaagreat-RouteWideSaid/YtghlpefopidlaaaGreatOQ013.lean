/-
  Messages: which are . Conditions as told.
-/
import Derived.Test.YtghlpefopidlaaaGreatOQ009
import Derived.Test.YtghlpefopidlaaaGreatOQ012
import Derived.Laws.Cover3
set_option maxRecDepth 100000
set_option maxHeartbeats 64000000
open _root_.Bool renaming false->aj,true->ak
open _root_.Go renaming World->Y,Value->aB,Calls->aJ,Addr->aN
open Go.Builtin renaming append_->U
open Go.Ending renaming returned->K
open Go.Obj renaming cells->L
open Go.Proofs.Tryz renaming prog->D,ntmps100->au,ntmps101->ay,ntmps102->aA,ntmps39->aC,ntmps99->aD,func100->aF,func101->aG,func102->aH,ntmps44->aI,func39->aK,func99->aL,func44->aM
open Go.RowKit.Below renaming refl->ah
open Go.Value renaming slice->J,bool->Z
open _root_.Nat renaming le_refl->X
open _root_.Option renaming none->O,some->V
namespace Go.Proofs.YtghlpefopidlaaaGreat
namespace Wr
open YtghlpefopidlaaaGreat.Nm At Pr
def He (c:C5):Bool:=ko c.1 && (if c.2.1=1 then decide (c.2.2.2.2.size=0) && decide (c.2.2.1<=c.2.2.2.1) else if c.2.1=2 then decide (c.2.2.1=0) && (decide (c.2.2.2.1=0) && decide (c.2.2.2.2.size<=12)) else if c.2.1=3 then decide (c.2.2.1=0) && (decide (c.2.2.2.1=0) && decide (c.2.2.2.2.size<=11)) else aj)
def Us (p x:C5):Bool:=Op.bytesLess p.1.toList x.1.toList
def JV (l:List C5) (k:Nat):Bool:=match l[k]? with
 | some x=>He x && (k == 0 || (match l[k-1]? with
  | some p=>Us p x
  | none=>ak))
 | none=>ak
def gV (l:List C5):Bool:=(List.range l.length).all (JV l) && decide (l.length<=5)
theorem Dh (l:List C5) (h:∀ j,j<l.length->JV l j=ak):gV l=decide (l.length<=5):=by
 unfold gV;rw [List.all_eq_true.2 fun j hj=>h j (List.mem_range.1 hj),Bool.true_and]
end Wr
namespace Bk
open Go.RowKit Rw YtghlpefopidlaaaGreat.Nm Pr
end Bk
namespace Bk
open Go.RowKit Go.Sort Rw YtghlpefopidlaaaGreat.Nm Pr
def eZ {α:Type} (l:List α) (k:Nat) (x:α):List α:=l.take k++[x]++l.drop k
def jI (b:Br) (a:Ad):Br×Bool:=if a.id∈b.seen then (b,aj) else ({ b with seen:=eZ b.seen (gF b.seen a.id) a.id,dG:=eZ b.dG (gF (b.dG.map Ad.id) a.id) a },ak)
abbrev iI (W:Y) (b:Nat) (a0 a1 a2 a3 a4 a5:aB):Y:=(((((W.setCell ⟨b,0,O⟩ a0).setCell ⟨b,1,O⟩ a1).setCell ⟨b,2,O⟩ a2).setCell ⟨b,3,O⟩ a3).setCell ⟨b,4,O⟩ a4).setCell ⟨b,5,O⟩ a5
theorem dP {W:Y} {b:Nat} {t:TypeId} {z0 z1 z2 z3 z4 z5:aB} (h:dx W b #[z0,z1,z2,z3,z4,z5] t) (a0 a1 a2 a3 a4 a5:aB):dx (iI W b a0 a1 a2 a3 a4 a5) b #[a0,a1,a2,a3,a4,a5] t:=by
 have h2:=dY (k:=5) (dY (k:=4) (dY (k:=3) (dY (k:=2) (dY (k:=1) (dY (k:=0) h a0) a1) a2) a3) a4) a5;simp only [List.setIfInBounds_toArray,List.set_cons_zero,List.set_cons_succ] at h2;exact h2
theorem dD {w W:Y} {B b:Nat} (h:Below B w W) (hb:B<=b) (a0 a1 a2 a3 a4 a5:aB):Below B w (iI W b a0 a1 a2 a3 a4 a5) :=
 (((((h.setCell hb _).setCell hb _).setCell hb _).setCell hb _).setCell hb _).setCell hb _
theorem Hf {α:Type} {E:Ek α} {W:Y} {B:Nat} {v:aB} {l:List α} (h:Own E W B v l) (b:Nat) (hb:b<B) (a0 a1 a2 a3 a4 a5:aB):Own E (iI W b a0 a1 a2 a3 a4 a5) B v l :=
 dZ (dZ (dZ (dZ (dZ (dZ h b 0 a0 hb) b 1 a1 hb) b 2 a2 hb) b 3 a3 hb) b 4 a4 hb) b 5 a5 hb
theorem iZ (w:Y) (c d e:Array aB) (r s t:TypeId):Below w.heap.size w (((w.alloc (L c r)).alloc (L d s)).alloc (L e t))/\dx (((w.alloc (L c r)).alloc (L d s)).alloc (L e t)) w.heap.size c r/\dx (((w.alloc (L c r)).alloc (L d s)).alloc (L e t)) (w.heap.size+1) d s/\dx (((w.alloc (L c r)).alloc (L d s)).alloc (L e t)) (w.heap.size+1+1) e t:=by
 refine⟨(((ah _ _).alloc (X _) _).alloc (by simp) _).alloc (by simp; omega) _,((dK w c r).more _).more _,?_,?_⟩
 ·have h:=(dK (w.alloc (L c r)) d s).more (L e t);simpa using h
 ·have h:=dK ((w.alloc (L c r)).alloc (L d s)) e t;simpa using h
theorem mq (l:List Id) (x:Id):gF l x<=l.length:=by
 unfold gF;exact (List.takeWhile_sublist _).length_le
end Bk
namespace Av
open Go.RowKit Rw YtghlpefopidlaaaGreat.Nm Pr Bk Rg
theorem JW (a:Option aN) (n c:Nat) (w:Y):(binOp .eql 24 (J a n c) (J O 0 0)).run D w=.ok (Z a.isNone) w:=by
 simp [go_sem,binOp,run_equal_slice_nil (P:=D) w 24 3 a n c Tryz.underlying24]
theorem uF (v:Sl) (l:List Int) (w:Y) (hv:Row EI w (dN v) l) (hl:l.length<=900) :
  aJ D 39 #[dN v] w fun e w'=>(∃ v':Sl,e=K (dN v')/\Own EI w' w.heap.size (dN v') l)/\Below w.heap.size w w':=by
 obtain⟨vo,vn,vc⟩:=v;rcases hv with⟨rfl,hv⟩|⟨a,cap,hv,h1,h2,h3⟩
 ·obtain⟨rfl,rfl,rfl⟩:vo=O/\vn=0/\vc=0:=by simpa using hv
  clear hv hl;have q:∀ w',(binOp .eql 24 (J O 0 0) (J O 0 0)).run D w'=.ok (Z ak) w':=fun w'=>JW O 0 0 w';go_enter aK,aC;go_wp2;go_ret;exact⟨⟨(O,0,0),rfl,iH _ _⟩,ah _ _⟩
 ·obtain⟨rfl,rfl,rfl⟩:vo=V a/\vn=l.length/\vc=cap:=by simpa using hv
  have hx:Row EI w (J (V a) l.length vc) l:=Or.inr ⟨a,vc,rfl,h1,h2,h3⟩;have n0:=iM w (L #[] 3);obtain⟨q0,w0,r0,o0,g0⟩:=kG Nm.Ng w.heap.size (dK w #[] 3) (X _) (hx.on n0) (by omega) 24;obtain⟨v1,v3,hv1⟩:=(Row.dB o0).len;obtain⟨n,hn⟩:∃ n,n=l.length:=⟨_,rfl⟩;have Q:=Lib.hid (show (∃ v':Sl,K q0=K (dN v')/\Own EI w0 w.heap.size (dN v') l)/\Below w.heap.size w w0 from ⟨⟨(v1,l.length,v3),by rw [hv1],by subst hv1; exact o0⟩,n0.trans (g0.mono n0.size)⟩);rw [<- hn] at r0 ⊢;clear hv h1 h2 h3 hx o0 g0 n0 hv1 hn hl;have q:∀ w',(binOp .eql 24 (J (V a) n vc) (J O 0 0)).run D w'=.ok (Z aj) w':=fun w'=>JW (V a) n vc w';have r0:(U #[24,24] 24 #[J (V ⟨w.heap.size,0,O⟩) 0 0,J (V a) n vc]).run D (w.alloc (L #[] 3))=.ok q0 w0:=r0;go_enter aK,aC;go_wp2_with (first | (at_builtin; refine wpList_append_run rfl _ _ 24 rfl rfl rfl r0 ?_) | fail);go_ret;exact Q.out
theorem JX (a:Option aN) (n c:Nat) (w:Y):(binOp .eql 26 (J a n c) (J O 0 0)).run D w=.ok (Z a.isNone) w:=by
 simp [go_sem,binOp,run_equal_slice_nil (P:=D) w 26 23 a n c Tryz.underlying26]
theorem Di (v:Sl) (l:List dO) (w:Y) (hv:Row EJ w (dN v) l) (hl:l.length<=900) :
  aJ D 99 #[dN v] w fun e w'=>(∃ v':Sl,e=K (dN v')/\Own EJ w' w.heap.size (dN v') l)/\Below w.heap.size w w':=by
 obtain⟨vo,vn,vc⟩:=v;rcases hv with⟨rfl,hv⟩|⟨a,cap,hv,h1,h2,h3⟩
 ·obtain⟨rfl,rfl,rfl⟩:vo=O/\vn=0/\vc=0:=by simpa using hv
  clear hv hl;have q:∀ w',(binOp .eql 26 (J O 0 0) (J O 0 0)).run D w'=.ok (Z ak) w':=fun w'=>JX O 0 0 w';go_enter aL,aD;go_wp2;go_ret;exact⟨⟨(O,0,0),rfl,iH _ _⟩,ah _ _⟩
 ·obtain⟨rfl,rfl,rfl⟩:vo=V a/\vn=l.length/\vc=cap:=by simpa using hv
  have hx:Row EJ w (J (V a) l.length vc) l:=Or.inr ⟨a,vc,rfl,h1,h2,h3⟩;have n0:=iM w (L #[] 23);obtain⟨q0,w0,r0,o0,g0⟩:=kG CF w.heap.size (dK w #[] 23) (X _) (hx.on n0) (by omega) 26;obtain⟨v1,v3,hv1⟩:=(Row.dB o0).len;obtain⟨n,hn⟩:∃ n,n=l.length:=⟨_,rfl⟩;have Q:=Lib.hid (show (∃ v':Sl,K q0=K (dN v')/\Own EJ w0 w.heap.size (dN v') l)/\Below w.heap.size w w0 from ⟨⟨(v1,l.length,v3),by rw [hv1],by subst hv1; exact o0⟩,n0.trans (g0.mono n0.size)⟩);rw [<- hn] at r0 ⊢;clear hv h1 h2 h3 hx o0 g0 n0 hv1 hn hl;have q:∀ w',(binOp .eql 26 (J (V a) n vc) (J O 0 0)).run D w'=.ok (Z aj) w':=fun w'=>JX (V a) n vc w';have r0:(U #[26,26] 26 #[J (V ⟨w.heap.size,0,O⟩) 0 0,J (V a) n vc]).run D (w.alloc (L #[] 23))=.ok q0 w0:=r0;go_enter aL,aD;go_wp2_with (first | (at_builtin; refine wpList_append_run rfl _ _ 26 rfl rfl rfl r0 ?_) | fail);go_ret;exact Q.out
theorem JY (a:Option aN) (n c:Nat) (w:Y):(binOp .eql 25 (J a n c) (J O 0 0)).run D w=.ok (Z a.isNone) w:=by
 simp [go_sem,binOp,run_equal_slice_nil (P:=D) w 25 36 a n c Tryz.underlying25]
theorem Dj (v:Sl) (l:List jD) (w:Y) (hv:Row ED w (dN v) l) (hl:l.length<=900) :
  aJ D 100 #[dN v] w fun e w'=>(∃ v':Sl,e=K (dN v')/\Own ED w' w.heap.size (dN v') l)/\Below w.heap.size w w':=by
 obtain⟨vo,vn,vc⟩:=v;rcases hv with⟨rfl,hv⟩|⟨a,cap,hv,h1,h2,h3⟩
 ·obtain⟨rfl,rfl,rfl⟩:vo=O/\vn=0/\vc=0:=by simpa using hv
  clear hv hl;have q:∀ w',(binOp .eql 25 (J O 0 0) (J O 0 0)).run D w'=.ok (Z ak) w':=fun w'=>JY O 0 0 w';go_enter aF,au;go_wp2;go_ret;exact⟨⟨(O,0,0),rfl,iH _ _⟩,ah _ _⟩
 ·obtain⟨rfl,rfl,rfl⟩:vo=V a/\vn=l.length/\vc=cap:=by simpa using hv
  have hx:Row ED w (J (V a) l.length vc) l:=Or.inr ⟨a,vc,rfl,h1,h2,h3⟩;have n0:=iM w (L #[] 36);obtain⟨q0,w0,r0,o0,g0⟩:=kG okD w.heap.size (dK w #[] 36) (X _) (hx.on n0) (by omega) 25;obtain⟨v1,v3,hv1⟩:=(Row.dB o0).len;obtain⟨n,hn⟩:∃ n,n=l.length:=⟨_,rfl⟩;have Q:=Lib.hid (show (∃ v':Sl,K q0=K (dN v')/\Own ED w0 w.heap.size (dN v') l)/\Below w.heap.size w w0 from ⟨⟨(v1,l.length,v3),by rw [hv1],by subst hv1; exact o0⟩,n0.trans (g0.mono n0.size)⟩);rw [<- hn] at r0 ⊢;clear hv h1 h2 h3 hx o0 g0 n0 hv1 hn hl;have q:∀ w',(binOp .eql 25 (J (V a) n vc) (J O 0 0)).run D w'=.ok (Z aj) w':=fun w'=>JY (V a) n vc w';have r0:(U #[25,25] 25 #[J (V ⟨w.heap.size,0,O⟩) 0 0,J (V a) n vc]).run D (w.alloc (L #[] 36))=.ok q0 w0:=r0;go_enter aF,au;go_wp2_with (first | (at_builtin; refine wpList_append_run rfl _ _ 25 rfl rfl rfl r0 ?_) | fail);go_ret;exact Q.out
theorem JZ (a:Option aN) (n c:Nat) (w:Y):(binOp .eql 27 (J a n c) (J O 0 0)).run D w=.ok (Z a.isNone) w:=by
 simp [go_sem,binOp,run_equal_slice_nil (P:=D) w 27 67 a n c Tryz.underlying27]
theorem Dk (v:Sl) (l:List iT) (w:Y) (hv:Row EN w (dN v) l) (hl:l.length<=900) :
  aJ D 101 #[dN v] w fun e w'=>(∃ v':Sl,e=K (dN v')/\Own EN w' w.heap.size (dN v') l)/\Below w.heap.size w w':=by
 obtain⟨vo,vn,vc⟩:=v;rcases hv with⟨rfl,hv⟩|⟨a,cap,hv,h1,h2,h3⟩
 ·obtain⟨rfl,rfl,rfl⟩:vo=O/\vn=0/\vc=0:=by simpa using hv
  clear hv hl;have q:∀ w',(binOp .eql 27 (J O 0 0) (J O 0 0)).run D w'=.ok (Z ak) w':=fun w'=>JZ O 0 0 w';go_enter aG,ay;go_wp2;go_ret;exact⟨⟨(O,0,0),rfl,iH _ _⟩,ah _ _⟩
 ·obtain⟨rfl,rfl,rfl⟩:vo=V a/\vn=l.length/\vc=cap:=by simpa using hv
  have hx:Row EN w (J (V a) l.length vc) l:=Or.inr ⟨a,vc,rfl,h1,h2,h3⟩;have n0:=iM w (L #[] 67);obtain⟨q0,w0,r0,o0,g0⟩:=kG lF w.heap.size (dK w #[] 67) (X _) (hx.on n0) (by omega) 27;obtain⟨v1,v3,hv1⟩:=(Row.dB o0).len;obtain⟨n,hn⟩:∃ n,n=l.length:=⟨_,rfl⟩;have Q:=Lib.hid (show (∃ v':Sl,K q0=K (dN v')/\Own EN w0 w.heap.size (dN v') l)/\Below w.heap.size w w0 from ⟨⟨(v1,l.length,v3),by rw [hv1],by subst hv1; exact o0⟩,n0.trans (g0.mono n0.size)⟩);rw [<- hn] at r0 ⊢;clear hv h1 h2 h3 hx o0 g0 n0 hv1 hn hl;have q:∀ w',(binOp .eql 27 (J (V a) n vc) (J O 0 0)).run D w'=.ok (Z aj) w':=fun w'=>JZ (V a) n vc w';have r0:(U #[27,27] 27 #[J (V ⟨w.heap.size,0,O⟩) 0 0,J (V a) n vc]).run D (w.alloc (L #[] 67))=.ok q0 w0:=r0;go_enter aG,ay;go_wp2_with (first | (at_builtin; refine wpList_append_run rfl _ _ 27 rfl rfl rfl r0 ?_) | fail);go_ret;exact Q.out
theorem J2 (a:Option aN) (n c:Nat) (w:Y):(binOp .eql 28 (J a n c) (J O 0 0)).run D w=.ok (Z a.isNone) w:=by
 simp [go_sem,binOp,run_equal_slice_nil (P:=D) w 28 88 a n c Tryz.underlying28]
theorem Dl (v:Sl) (l:List lG) (w:Y) (hv:Row EW w (dN v) l) (hl:l.length<=900) :
  aJ D 102 #[dN v] w fun e w'=>(∃ v':Sl,e=K (dN v')/\Own EW w' w.heap.size (dN v') l)/\Below w.heap.size w w':=by
 obtain⟨vo,vn,vc⟩:=v;rcases hv with⟨rfl,hv⟩|⟨a,cap,hv,h1,h2,h3⟩
 ·obtain⟨rfl,rfl,rfl⟩:vo=O/\vn=0/\vc=0:=by simpa using hv
  clear hv hl;have q:∀ w',(binOp .eql 28 (J O 0 0) (J O 0 0)).run D w'=.ok (Z ak) w':=fun w'=>J2 O 0 0 w';go_enter aH,aA;go_wp2;go_ret;exact⟨⟨(O,0,0),rfl,iH _ _⟩,ah _ _⟩
 ·obtain⟨rfl,rfl,rfl⟩:vo=V a/\vn=l.length/\vc=cap:=by simpa using hv
  have hx:Row EW w (J (V a) l.length vc) l:=Or.inr ⟨a,vc,rfl,h1,h2,h3⟩;have n0:=iM w (L #[] 88);obtain⟨q0,w0,r0,o0,g0⟩:=kG okW w.heap.size (dK w #[] 88) (X _) (hx.on n0) (by omega) 28;obtain⟨v1,v3,hv1⟩:=(Row.dB o0).len;obtain⟨n,hn⟩:∃ n,n=l.length:=⟨_,rfl⟩;have Q:=Lib.hid (show (∃ v':Sl,K q0=K (dN v')/\Own EW w0 w.heap.size (dN v') l)/\Below w.heap.size w w0 from ⟨⟨(v1,l.length,v3),by rw [hv1],by subst hv1; exact o0⟩,n0.trans (g0.mono n0.size)⟩);rw [<- hn] at r0 ⊢;clear hv h1 h2 h3 hx o0 g0 n0 hv1 hn hl;have q:∀ w',(binOp .eql 28 (J (V a) n vc) (J O 0 0)).run D w'=.ok (Z aj) w':=fun w'=>J2 (V a) n vc w';have r0:(U #[28,28] 28 #[J (V ⟨w.heap.size,0,O⟩) 0 0,J (V a) n vc]).run D (w.alloc (L #[] 88))=.ok q0 w0:=r0;go_enter aH,aA;go_wp2_with (first | (at_builtin; refine wpList_append_run rfl _ _ 28 rfl rfl rfl r0 ?_) | fail);go_ret;exact Q.out
theorem J3 (a:Option aN) (n c:Nat) (w:Y):(binOp .eql 34 (J a n c) (J O 0 0)).run D w=.ok (Z a.isNone) w:=by
 simp [go_sem,binOp,run_equal_slice_nil (P:=D) w 34 91 a n c Tryz.underlying34]
theorem jJ (v:Sl) (l:List C5) (w:Y) (hv:Row EC w (dN v) l) (hl:l.length<=900) :
  aJ D 44 #[dN v] w fun e w'=>(∃ v':Sl,e=K (dN v')/\Own EC w' w.heap.size (dN v') l)/\Below w.heap.size w w':=by
 obtain⟨vo,vn,vc⟩:=v;rcases hv with⟨rfl,hv⟩|⟨a,cap,hv,h1,h2,h3⟩
 ·obtain⟨rfl,rfl,rfl⟩:vo=O/\vn=0/\vc=0:=by simpa using hv
  clear hv hl;have q:∀ w',(binOp .eql 34 (J O 0 0) (J O 0 0)).run D w'=.ok (Z ak) w':=fun w'=>J3 O 0 0 w';go_enter aM,aI;go_wp2;go_ret;exact⟨⟨(O,0,0),rfl,iH _ _⟩,ah _ _⟩
 ·obtain⟨rfl,rfl,rfl⟩:vo=V a/\vn=l.length/\vc=cap:=by simpa using hv
  have hx:Row EC w (J (V a) l.length vc) l:=Or.inr ⟨a,vc,rfl,h1,h2,h3⟩;have n0:=iM w (L #[] 91);obtain⟨q0,w0,r0,o0,g0⟩:=kG sP w.heap.size (dK w #[] 91) (X _) (hx.on n0) (by omega) 34;obtain⟨v1,v3,hv1⟩:=(Row.dB o0).len;obtain⟨n,hn⟩:∃ n,n=l.length:=⟨_,rfl⟩;have Q:=Lib.hid (show (∃ v':Sl,K q0=K (dN v')/\Own EC w0 w.heap.size (dN v') l)/\Below w.heap.size w w0 from ⟨⟨(v1,l.length,v3),by rw [hv1],by subst hv1; exact o0⟩,n0.trans (g0.mono n0.size)⟩);rw [<- hn] at r0 ⊢;clear hv h1 h2 h3 hx o0 g0 n0 hv1 hn hl;have q:∀ w',(binOp .eql 34 (J (V a) n vc) (J O 0 0)).run D w'=.ok (Z aj) w':=fun w'=>J3 (V a) n vc w';have r0:(U #[34,34] 34 #[J (V ⟨w.heap.size,0,O⟩) 0 0,J (V a) n vc]).run D (w.alloc (L #[] 91))=.ok q0 w0:=r0;go_enter aM,aI;go_wp2_with (first | (at_builtin; refine wpList_append_run rfl _ _ 34 rfl rfl rfl r0 ?_) | fail);go_ret;exact Q.out
end Av
namespace Bk
open Go.RowKit Go.Sort Rw YtghlpefopidlaaaGreat.Nm Pr
def cutAt {α:Type} (l:List α) (k:Nat):List α:=l.take k++l.drop (k+1)
def Fb (b:Br) (x:Id) (f:Int):Br×Bool:=match b.dG[(fC (b.dG.map Ad.id) x).toNat]? with
 | none=>(b,aj)
 | some a=>if fC (b.dG.map Ad.id) x=-1 then (b,aj) else if a.par=f then ({ b with dG:=cutAt b.dG (fC (b.dG.map Ad.id) x).toNat,ent:=b.ent.filter fun e=>decide (e.tree≠x) },ak) else (b,aj)
theorem Rm (a b c d:Int) (r:Bool) (h:(!(a == c && b == d))=r) (w:Y):(binOp .neq 23 (.agg #[.int .i64 a,.int .i64 b]) (.agg #[.int .i64 c,.int .i64 d])).run D w=.ok (Z r) w:=by
 have st:=E5;subst h;by_cases h1:a=c <;> by_cases h2:b=d <;> simp [go_sem,Tryz.underlying23,Tryz.underlying3,st,h1,h2]
structure zh (b:Br):Prop where
 near:b.near.length<=900
 dG:b.dG.length<=900
 seen:b.seen.length<=900
 ent:b.ent.length<=900
 own:b.own.length<=900
def XK (x y:Id):Bool:=x.1 == y.1 && x.2 == y.2
theorem tN (x y:Id):XK x y=ak↔x=y:=by
 obtain⟨a,b⟩:=x;obtain⟨c,d⟩:=y;simp [XK]
end Bk
end Go.Proofs.YtghlpefopidlaaaGreat
