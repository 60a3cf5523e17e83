/-
  Names, pick, Tuple o. Conditions as told.
-/
import Derived.Test.YtghlpefopidlaaaGreatBQ005
import Derived.Maps.AppendAt
import Derived.Laws.Cover3
import Derived.Test.YtghlpefopidlaaaGreatBQ006
set_option maxRecDepth 100000
set_option maxHeartbeats 64000000
open _root_.Bool renaming and_eq_true->au,eq_iff_iff->aI,true->aK,false->aO
open _root_.Go renaming World->aC,Calls->aN,Addr->bg
open Go.Builtin renaming append_->ah
open Go.Ending renaming returned->K
open Go.IntKind renaming i64->aj
open Go.Lib renaming hid->L
open Go.Obj renaming cells->Y
open Go.Proofs.Tryz renaming prog->D,ntmps100->aP,ntmps101->aQ,ntmps102->aR,ntmps39->aS,ntmps99->aT,func100->aU,func101->aV,func102->aW,ntmps44->aX,func39->aY,func99->aZ,func44->bf
open Go.Proofs.YtghlpefopidlaaaGreat.Rw renaming wpList_append_run->U
open Go.RowKit renaming Below->ay
open Go.RowKit.Below renaming refl->ak
open Go.Value renaming slice->J,string->aA,bool->aB,int->aF
open Go.World renaming cell?_alloc_at->aD,cell?_alloc_lt->aJ
open _root_.List renaming getElem?_eq_getElem->X,getElem?_eq_some_iff->aG,mem_append->aH,find?_eq_none->aM
open _root_.Nat renaming le_refl->Z
open _root_.Option renaming none->O,some->V
namespace Go.Proofs.YtghlpefopidlaaaGreat
namespace At
open Go.RowKit Va In
def nm (i:Nat):ByteArray:=⟨#[UInt8.ofNat (97+i)]⟩
def rz:Array Value:=#[aA ⟨#[97]⟩,aA ⟨#[98]⟩,aA ⟨#[99]⟩,aA ⟨#[100]⟩,aA ⟨#[101]⟩,aA ⟨#[102]⟩,aA ⟨#[103]⟩]
def oV (zs:List Int) (i:Nat):Int:=if zs=[] then 0 else zs.getD (i % zs.length) 0
def odd (z:Int):Bool:=bits BinOp.and aj z 1 == 1
end At
namespace At
open Go.RowKit Go.Sort Va In
end At
namespace At
open Go.RowKit Go.Sort Va In
def uG (c:UInt8):Bool:=decide (97<=c.toNat) && decide (c.toNat<=122)
def kR (s:ByteArray):Bool:=s.data.toList.all uG && (decide (1<=s.size) && decide (s.size<=12))
end At
namespace Av
open Go.RowKit Rw YtghlpefopidlaaaGreat.Nm Pr Bk Rg
theorem KW (a:Option bg) (n c:Nat) (w:aC):(binOp .eql 24 (J a n c) (J O 0 0)).run D w=.ok (aB a.isNone) w:=by
 simp [go_sem,binOp,run_equal_slice_nil (P:=D) w 24 3 a n c Tryz.underlying24]
theorem vH (v:Sl) (l:List Int) (w:aC) (hv:Row EI w (dQ v) l) (hl:l.length<=900) :
  aN D 39 #[dQ v] w fun e w'=>(∃ v':Sl,e=K (dQ v')/\Own EI w' w.heap.size (dQ v') l)/\ay w.heap.size w w':=by
 obtain⟨vo,vn,vc⟩:=v;rcases hv with⟨rfl,hv⟩|⟨a,cap,hv,h1,h2,h3⟩
 ·obtain⟨rfl,rfl,rfl⟩:vo=O/\vn=0/\vc=0:=by simpa using hv
  clear hv hl;have q:∀ w',(binOp .eql 24 (J O 0 0) (J O 0 0)).run D w'=.ok (aB aK) w':=fun w'=>KW O 0 0 w';go_enter aY,aS;go_wp2;go_ret;exact⟨⟨(O,0,0),rfl,iP _ _⟩,ak _ _⟩
 ·obtain⟨rfl,rfl,rfl⟩:vo=V a/\vn=l.length/\vc=cap:=by simpa using hv
  have hx:Row EI w (J (V a) l.length vc) l:=Or.inr ⟨a,vc,rfl,h1,h2,h3⟩;have n0:=jk w (Y #[] 3);obtain⟨q0,w0,r0,o0,g0⟩:=kZ Nm.PG w.heap.size (dO w #[] 3) (Z _) (hx.on n0) (by omega) 24;obtain⟨v1,v3,hv1⟩:=(Row.dH o0).len;obtain⟨n,hn⟩:∃ n,n=l.length:=⟨_,rfl⟩;have Q:=L (show (∃ v':Sl,K q0=K (dQ v')/\Own EI w0 w.heap.size (dQ v') l)/\ay w.heap.size w w0 from ⟨⟨(v1,l.length,v3),by rw [hv1],by subst hv1; exact o0⟩,n0.trans (g0.mono n0.size)⟩);rw [<- hn] at r0 ⊢;clear hv h1 h2 h3 hx o0 g0 n0 hv1 hn hl;have q:∀ w',(binOp .eql 24 (J (V a) n vc) (J O 0 0)).run D w'=.ok (aB aO) w':=fun w'=>KW (V a) n vc w';have r0:(ah #[24,24] 24 #[J (V ⟨w.heap.size,0,O⟩) 0 0,J (V a) n vc]).run D (w.alloc (Y #[] 3))=.ok q0 w0:=r0;go_enter aY,aS;go_wp2_with (first | (at_builtin; refine U rfl _ _ 24 rfl rfl rfl r0 ?_) | fail);go_ret;exact Q.out
theorem KX (a:Option bg) (n c:Nat) (w:aC):(binOp .eql 26 (J a n c) (J O 0 0)).run D w=.ok (aB a.isNone) w:=by
 simp [go_sem,binOp,run_equal_slice_nil (P:=D) w 26 23 a n c Tryz.underlying26]
theorem Et (v:Sl) (l:List dV) (w:aC) (hv:Row EJ w (dQ v) l) (hl:l.length<=900) :
  aN D 99 #[dQ v] w fun e w'=>(∃ v':Sl,e=K (dQ v')/\Own EJ w' w.heap.size (dQ v') l)/\ay w.heap.size w w':=by
 obtain⟨vo,vn,vc⟩:=v;rcases hv with⟨rfl,hv⟩|⟨a,cap,hv,h1,h2,h3⟩
 ·obtain⟨rfl,rfl,rfl⟩:vo=O/\vn=0/\vc=0:=by simpa using hv
  clear hv hl;have q:∀ w',(binOp .eql 26 (J O 0 0) (J O 0 0)).run D w'=.ok (aB aK) w':=fun w'=>KX O 0 0 w';go_enter aZ,aT;go_wp2;go_ret;exact⟨⟨(O,0,0),rfl,iP _ _⟩,ak _ _⟩
 ·obtain⟨rfl,rfl,rfl⟩:vo=V a/\vn=l.length/\vc=cap:=by simpa using hv
  have hx:Row EJ w (J (V a) l.length vc) l:=Or.inr ⟨a,vc,rfl,h1,h2,h3⟩;have n0:=jk w (Y #[] 23);obtain⟨q0,w0,r0,o0,g0⟩:=kZ BU w.heap.size (dO w #[] 23) (Z _) (hx.on n0) (by omega) 26;obtain⟨v1,v3,hv1⟩:=(Row.dH o0).len;obtain⟨n,hn⟩:∃ n,n=l.length:=⟨_,rfl⟩;have Q:=L (show (∃ v':Sl,K q0=K (dQ v')/\Own EJ w0 w.heap.size (dQ v') l)/\ay w.heap.size w w0 from ⟨⟨(v1,l.length,v3),by rw [hv1],by subst hv1; exact o0⟩,n0.trans (g0.mono n0.size)⟩);rw [<- hn] at r0 ⊢;clear hv h1 h2 h3 hx o0 g0 n0 hv1 hn hl;have q:∀ w',(binOp .eql 26 (J (V a) n vc) (J O 0 0)).run D w'=.ok (aB aO) w':=fun w'=>KX (V a) n vc w';have r0:(ah #[26,26] 26 #[J (V ⟨w.heap.size,0,O⟩) 0 0,J (V a) n vc]).run D (w.alloc (Y #[] 23))=.ok q0 w0:=r0;go_enter aZ,aT;go_wp2_with (first | (at_builtin; refine U rfl _ _ 26 rfl rfl rfl r0 ?_) | fail);go_ret;exact Q.out
theorem KY (a:Option bg) (n c:Nat) (w:aC):(binOp .eql 25 (J a n c) (J O 0 0)).run D w=.ok (aB a.isNone) w:=by
 simp [go_sem,binOp,run_equal_slice_nil (P:=D) w 25 36 a n c Tryz.underlying25]
theorem Eu (v:Sl) (l:List jS) (w:aC) (hv:Row ED w (dQ v) l) (hl:l.length<=900) :
  aN D 100 #[dQ v] w fun e w'=>(∃ v':Sl,e=K (dQ v')/\Own ED w' w.heap.size (dQ v') l)/\ay w.heap.size w w':=by
 obtain⟨vo,vn,vc⟩:=v;rcases hv with⟨rfl,hv⟩|⟨a,cap,hv,h1,h2,h3⟩
 ·obtain⟨rfl,rfl,rfl⟩:vo=O/\vn=0/\vc=0:=by simpa using hv
  clear hv hl;have q:∀ w',(binOp .eql 25 (J O 0 0) (J O 0 0)).run D w'=.ok (aB aK) w':=fun w'=>KY O 0 0 w';go_enter aU,aP;go_wp2;go_ret;exact⟨⟨(O,0,0),rfl,iP _ _⟩,ak _ _⟩
 ·obtain⟨rfl,rfl,rfl⟩:vo=V a/\vn=l.length/\vc=cap:=by simpa using hv
  have hx:Row ED w (J (V a) l.length vc) l:=Or.inr ⟨a,vc,rfl,h1,h2,h3⟩;have n0:=jk w (Y #[] 36);obtain⟨q0,w0,r0,o0,g0⟩:=kZ okD w.heap.size (dO w #[] 36) (Z _) (hx.on n0) (by omega) 25;obtain⟨v1,v3,hv1⟩:=(Row.dH o0).len;obtain⟨n,hn⟩:∃ n,n=l.length:=⟨_,rfl⟩;have Q:=L (show (∃ v':Sl,K q0=K (dQ v')/\Own ED w0 w.heap.size (dQ v') l)/\ay w.heap.size w w0 from ⟨⟨(v1,l.length,v3),by rw [hv1],by subst hv1; exact o0⟩,n0.trans (g0.mono n0.size)⟩);rw [<- hn] at r0 ⊢;clear hv h1 h2 h3 hx o0 g0 n0 hv1 hn hl;have q:∀ w',(binOp .eql 25 (J (V a) n vc) (J O 0 0)).run D w'=.ok (aB aO) w':=fun w'=>KY (V a) n vc w';have r0:(ah #[25,25] 25 #[J (V ⟨w.heap.size,0,O⟩) 0 0,J (V a) n vc]).run D (w.alloc (Y #[] 36))=.ok q0 w0:=r0;go_enter aU,aP;go_wp2_with (first | (at_builtin; refine U rfl _ _ 25 rfl rfl rfl r0 ?_) | fail);go_ret;exact Q.out
theorem KZ (a:Option bg) (n c:Nat) (w:aC):(binOp .eql 27 (J a n c) (J O 0 0)).run D w=.ok (aB a.isNone) w:=by
 simp [go_sem,binOp,run_equal_slice_nil (P:=D) w 27 67 a n c Tryz.underlying27]
theorem Ev (v:Sl) (l:List jl) (w:aC) (hv:Row EN w (dQ v) l) (hl:l.length<=900) :
  aN D 101 #[dQ v] w fun e w'=>(∃ v':Sl,e=K (dQ v')/\Own EN w' w.heap.size (dQ v') l)/\ay w.heap.size w w':=by
 obtain⟨vo,vn,vc⟩:=v;rcases hv with⟨rfl,hv⟩|⟨a,cap,hv,h1,h2,h3⟩
 ·obtain⟨rfl,rfl,rfl⟩:vo=O/\vn=0/\vc=0:=by simpa using hv
  clear hv hl;have q:∀ w',(binOp .eql 27 (J O 0 0) (J O 0 0)).run D w'=.ok (aB aK) w':=fun w'=>KZ O 0 0 w';go_enter aV,aQ;go_wp2;go_ret;exact⟨⟨(O,0,0),rfl,iP _ _⟩,ak _ _⟩
 ·obtain⟨rfl,rfl,rfl⟩:vo=V a/\vn=l.length/\vc=cap:=by simpa using hv
  have hx:Row EN w (J (V a) l.length vc) l:=Or.inr ⟨a,vc,rfl,h1,h2,h3⟩;have n0:=jk w (Y #[] 67);obtain⟨q0,w0,r0,o0,g0⟩:=kZ lY w.heap.size (dO w #[] 67) (Z _) (hx.on n0) (by omega) 27;obtain⟨v1,v3,hv1⟩:=(Row.dH o0).len;obtain⟨n,hn⟩:∃ n,n=l.length:=⟨_,rfl⟩;have Q:=L (show (∃ v':Sl,K q0=K (dQ v')/\Own EN w0 w.heap.size (dQ v') l)/\ay w.heap.size w w0 from ⟨⟨(v1,l.length,v3),by rw [hv1],by subst hv1; exact o0⟩,n0.trans (g0.mono n0.size)⟩);rw [<- hn] at r0 ⊢;clear hv h1 h2 h3 hx o0 g0 n0 hv1 hn hl;have q:∀ w',(binOp .eql 27 (J (V a) n vc) (J O 0 0)).run D w'=.ok (aB aO) w':=fun w'=>KZ (V a) n vc w';have r0:(ah #[27,27] 27 #[J (V ⟨w.heap.size,0,O⟩) 0 0,J (V a) n vc]).run D (w.alloc (Y #[] 67))=.ok q0 w0:=r0;go_enter aV,aQ;go_wp2_with (first | (at_builtin; refine U rfl _ _ 27 rfl rfl rfl r0 ?_) | fail);go_ret;exact Q.out
theorem K4 (a:Option bg) (n c:Nat) (w:aC):(binOp .eql 28 (J a n c) (J O 0 0)).run D w=.ok (aB a.isNone) w:=by
 simp [go_sem,binOp,run_equal_slice_nil (P:=D) w 28 88 a n c Tryz.underlying28]
theorem Ew (v:Sl) (l:List lZ) (w:aC) (hv:Row EW w (dQ v) l) (hl:l.length<=900) :
  aN D 102 #[dQ v] w fun e w'=>(∃ v':Sl,e=K (dQ v')/\Own EW w' w.heap.size (dQ v') l)/\ay w.heap.size w w':=by
 obtain⟨vo,vn,vc⟩:=v;rcases hv with⟨rfl,hv⟩|⟨a,cap,hv,h1,h2,h3⟩
 ·obtain⟨rfl,rfl,rfl⟩:vo=O/\vn=0/\vc=0:=by simpa using hv
  clear hv hl;have q:∀ w',(binOp .eql 28 (J O 0 0) (J O 0 0)).run D w'=.ok (aB aK) w':=fun w'=>K4 O 0 0 w';go_enter aW,aR;go_wp2;go_ret;exact⟨⟨(O,0,0),rfl,iP _ _⟩,ak _ _⟩
 ·obtain⟨rfl,rfl,rfl⟩:vo=V a/\vn=l.length/\vc=cap:=by simpa using hv
  have hx:Row EW w (J (V a) l.length vc) l:=Or.inr ⟨a,vc,rfl,h1,h2,h3⟩;have n0:=jk w (Y #[] 88);obtain⟨q0,w0,r0,o0,g0⟩:=kZ okW w.heap.size (dO w #[] 88) (Z _) (hx.on n0) (by omega) 28;obtain⟨v1,v3,hv1⟩:=(Row.dH o0).len;obtain⟨n,hn⟩:∃ n,n=l.length:=⟨_,rfl⟩;have Q:=L (show (∃ v':Sl,K q0=K (dQ v')/\Own EW w0 w.heap.size (dQ v') l)/\ay w.heap.size w w0 from ⟨⟨(v1,l.length,v3),by rw [hv1],by subst hv1; exact o0⟩,n0.trans (g0.mono n0.size)⟩);rw [<- hn] at r0 ⊢;clear hv h1 h2 h3 hx o0 g0 n0 hv1 hn hl;have q:∀ w',(binOp .eql 28 (J (V a) n vc) (J O 0 0)).run D w'=.ok (aB aO) w':=fun w'=>K4 (V a) n vc w';have r0:(ah #[28,28] 28 #[J (V ⟨w.heap.size,0,O⟩) 0 0,J (V a) n vc]).run D (w.alloc (Y #[] 88))=.ok q0 w0:=r0;go_enter aW,aR;go_wp2_with (first | (at_builtin; refine U rfl _ _ 28 rfl rfl rfl r0 ?_) | fail);go_ret;exact Q.out
theorem K5 (a:Option bg) (n c:Nat) (w:aC):(binOp .eql 34 (J a n c) (J O 0 0)).run D w=.ok (aB a.isNone) w:=by
 simp [go_sem,binOp,run_equal_slice_nil (P:=D) w 34 91 a n c Tryz.underlying34]
theorem jW (v:Sl) (l:List C5) (w:aC) (hv:Row EC w (dQ v) l) (hl:l.length<=900) :
  aN D 44 #[dQ v] w fun e w'=>(∃ v':Sl,e=K (dQ v')/\Own EC w' w.heap.size (dQ v') l)/\ay w.heap.size w w':=by
 obtain⟨vo,vn,vc⟩:=v;rcases hv with⟨rfl,hv⟩|⟨a,cap,hv,h1,h2,h3⟩
 ·obtain⟨rfl,rfl,rfl⟩:vo=O/\vn=0/\vc=0:=by simpa using hv
  clear hv hl;have q:∀ w',(binOp .eql 34 (J O 0 0) (J O 0 0)).run D w'=.ok (aB aK) w':=fun w'=>K5 O 0 0 w';go_enter bf,aX;go_wp2;go_ret;exact⟨⟨(O,0,0),rfl,iP _ _⟩,ak _ _⟩
 ·obtain⟨rfl,rfl,rfl⟩:vo=V a/\vn=l.length/\vc=cap:=by simpa using hv
  have hx:Row EC w (J (V a) l.length vc) l:=Or.inr ⟨a,vc,rfl,h1,h2,h3⟩;have n0:=jk w (Y #[] 91);obtain⟨q0,w0,r0,o0,g0⟩:=kZ qZ w.heap.size (dO w #[] 91) (Z _) (hx.on n0) (by omega) 34;obtain⟨v1,v3,hv1⟩:=(Row.dH o0).len;obtain⟨n,hn⟩:∃ n,n=l.length:=⟨_,rfl⟩;have Q:=L (show (∃ v':Sl,K q0=K (dQ v')/\Own EC w0 w.heap.size (dQ v') l)/\ay w.heap.size w w0 from ⟨⟨(v1,l.length,v3),by rw [hv1],by subst hv1; exact o0⟩,n0.trans (g0.mono n0.size)⟩);rw [<- hn] at r0 ⊢;clear hv h1 h2 h3 hx o0 g0 n0 hv1 hn hl;have q:∀ w',(binOp .eql 34 (J (V a) n vc) (J O 0 0)).run D w'=.ok (aB aO) w':=fun w'=>K5 (V a) n vc w';have r0:(ah #[34,34] 34 #[J (V ⟨w.heap.size,0,O⟩) 0 0,J (V a) n vc]).run D (w.alloc (Y #[] 91))=.ok q0 w0:=r0;go_enter bf,aX;go_wp2_with (first | (at_builtin; refine U rfl _ _ 34 rfl rfl rfl r0 ?_) | fail);go_ret;exact Q.out
theorem Ey (l:List dV) (x:dV) (h:∀ (j:Nat) (y:dV),l[j]?=V y->y≠x):fH l x=-1:=by
 induction l with
 | nil=>rfl
 | cons a l ih =>
  rw [fH,if_neg (h 0 a rfl),ih fun j y hj=>h (j+1) y (by simpa using hj),if_pos rfl]
theorem K6 (l:List dV) (k:Nat) (x:dV) (h:l[k]?=V x) (hall:∀ (j:Nat) (z:dV),j<k->l[j]?=V z->z≠x):fH l x=k:=by
 induction l generalizing k with
 | nil=>simp at h
 | cons a l ih =>
  cases k with
  | zero =>
   obtain rfl:a=x:=by simpa using h
   rw [fH,if_pos rfl]
   rfl
  | succ k =>
   have h2:=ih k (by simpa using h) fun j z hj hz=>hall (j+1) z (by omega) (by simpa using hz);rw [fH,if_neg (hall 0 a (by omega) rfl),h2,if_neg (by omega)];omega
theorem Cc (l:List dV) (x:dV):decide ((0:Int)<=fH l x)=decide (x∈l):=by
 induction l with
 | nil=>simp [fH]
 | cons a l ih =>
  have hb:=ru l x;rw [fH];by_cases h:a=x
  ·rw [if_pos h]; simp [h]
  ·rw [if_neg h];have h':¬ x=a:=fun e=>h e.symm;simp only [List.mem_cons,h',false_or];rw [<- ih];by_cases h2:fH l x=-1
   ·rw [if_pos h2,h2]
   ·rw [if_neg h2];have h3:0<=fH l x:=by omega
    have h4:0<=fH l x+1:=by omega
    simp [h3,h4]
theorem IQ (sv:Sl) (l:List dV) (x:dV) (w:aC) (hs:Ac w (dQ sv) l) :
  aN D 139 #[dQ sv,oK x] w fun e w'=>e=K (aF aj (fH l x))/\ay w.heap.size w w':=by
 obtain⟨c,d⟩:=x;obtain⟨so,sn,sc⟩:=sv;obtain⟨ao,ac,hv⟩:=hs.len;have hv:J so sn sc=J ao l.length ac:=hv;obtain⟨rfl,rfl,rfl⟩:so=ao/\sn=l.length/\sc=ac:=by simpa using hv
 have h0:=jk w (Y #[aF aj c,aF aj d] 23);have h2:=dO w #[aF aj c,aF aj d] 23;have B:=L h0;have HS:=L (hs.on h0);have X3:=L h2;have lm:=hs.most;unfold maxLen at lm;obtain⟨n,hn⟩:∃ n,n=l.length:=⟨_,rfl⟩;rw [<- hn] at HS lm ⊢;have HN:=L hn.symm;clear h0 h2 hs hv hn;go_enter Tryz.func139,Tryz.ntmps139;go_upto_region 1 with fail;generalize w.alloc (Y #[aF aj c,aF aj d] 23)=W at *;go_wp2
 go_loopw [8] (fun i wr=>∃ k:Nat,k<=n/\i=aF aj k/\ay W.heap.size W wr/\∀ (j:Nat) (y:dV),j<k->l[j]?=V y->y≠(c,d)) (fun i _=>n-(intOf i).toNat)
 case atStart=>exact⟨0,Nat.zero_le _,rfl,ak _ _,fun j y h=>by omega⟩
 case round =>
  obtain⟨k,hk,rfl,hbe,hall⟩:=hrel;have BE:=L hbe;have AL:=L hall;clear hbe hall;by_cases hlt:k<n
  ·obtain⟨y,hy⟩:∃ y,l[k]?=V y:=⟨_,X (by rw [HN.out]; exact hlt)⟩;obtain⟨p,ix,px⟩:=elJ HS.out rfl HN.out hy;have DD:ay W.heap.size W wr.drew:=BE.out.drew;obtain⟨p0,p1⟩:=px wr BE.out;obtain⟨y1,y2⟩:=y;simp only at p0 p1;obtain⟨x0,x1⟩:=(X3.out.on BE.out).cs2;have hw3:IntKind.i64.wrap ((k:Int)+1)=(k:Int)+1:=IntWalk.i64_in _ (by omega);obtain⟨r,hr⟩:∃ r,(c == y1 && d == y2)=r:=⟨_,rfl⟩;have he:=Ae c d y1 y2 r hr;have DB:=L DD;have HY:=L hy;have HR:=L hr;clear px hy hr DD;cases r
   ·go_wp2_with fail
    go_quiet (fail)
    go_wp2
    go_roundw
    case rel=>exact⟨k+1,by omega,by go_num,⟨BE.out.os,BE.out.tape,BE.out.output,BE.out.size,BE.out.block⟩,fun j y' hj h1=>by
     rcases Nat.lt_or_ge j k with h3|h3
     ·exact AL.out j y' h3 h1
     ·obtain rfl:j=k:=by omega
      have e1:=HY.out;rw [h1] at e1;rw [Option.some.inj e1];intro e;obtain⟨rfl,rfl⟩:y1=c/\y2=d:=by simpa using e
      have:=HR.out;simp at this⟩
    case measure=>simp [intOf]; omega
   ·go_wp2_with fail
    go_quiet (fail)
    go_wp2;go_ret;have h8:=HR.out;obtain⟨rfl,rfl⟩:c=y1/\d=y2:=by simpa using h8
    exact⟨by rw [K6 l k (c,d) HY.out AL.out]; rfl,B.out.trans (Below.mono ⟨BE.out.os,BE.out.tape,BE.out.output,BE.out.size,BE.out.block⟩ B.out.size)⟩
  ·obtain rfl:k=n:=by omega
   go_wp2;go_ret;have hd:fH l (c,d)=-1:=Ey l (c,d) fun j y hj=>AL.out j y (by rw [<- HN.out]; exact (aG.1 hj).1) hj;exact⟨by rw [hd]; rfl,B.out.trans (BE.out.mono B.out.size)⟩
theorem Af (sv:Sl) (l:List dV) (x:dV) (w:aC) (hs:Ac w (dQ sv) l) :
  aN D 98 #[dQ sv,oK x] w fun e w'=>e=K (aB (decide (x∈l)))/\ay w.heap.size w w':=by
 have h0:=jk w (Y #[aF aj x.1,aF aj x.2] 23);have h2:=dO w #[aF aj x.1,aF aj x.2] 23;have C:=IQ sv l x _ (hs.on h0);have R:=L (Cc l x);obtain⟨c,d⟩:=x;obtain⟨so,sn,sc⟩:=sv;have B:=L h0;obtain⟨x0,x1⟩:=h2.cs2;generalize fH l (c,d)=r at *;generalize decide ((c,d)∈l)=s at *;clear h0 h2 hs;go_enter Tryz.func98,Tryz.ntmps98;go_wp2_with fail;refine C.mono ?_;rintro e w1 ⟨rfl,hb⟩;go_wp2;go_ret;exact⟨by have h:=R.out; subst h; rfl,B.out.trans (hb.mono B.out.size)⟩
theorem IU (me:Int) (nv av ev ov:Value) (sv:Sl) (l:List dV) (x:dV) (w:aC) (hs:Ac w (dQ sv) l) :
  aN D 32 #[.agg #[aF aj me,nv,av,dQ sv,ev,ov],oK x] w fun e w'=>e=K (aB (decide (x∈l)))/\ay w.heap.size w w':=by
 obtain⟨h0,h1,h2⟩:=jd w #[aF aj me,nv,av,dQ sv,ev,ov] #[aF aj x.1,aF aj x.2] 30 23;have C:=Af sv l x _ (hs.on h0);obtain⟨c,d⟩:=x;obtain⟨so,sn,sc⟩:=sv;have B:=L h0;have b3:=h1.cell 3;obtain⟨x0,x1⟩:=h2.cs2;simp only [List.getElem?_toArray,List.getElem?_cons_zero,List.getElem?_cons_succ] at b3;generalize decide ((c,d)∈l)=s at *;clear h0 h1 h2 hs;go_enter Tryz.func32,Tryz.ntmps32;go_wp2_with fail;refine C.mono ?_;rintro e w1 ⟨rfl,hb⟩;go_wp2;go_ret;exact⟨rfl,B.out.trans (hb.mono B.out.size)⟩
end Av
namespace Pr
open Go.RowKit Pu Rw Va Kp In
def nN (has vals:List Int):Nat->List Cn
 | 0=>[]
 | i+1=>if i<has.length/\odd (has.getD i 0)=aK/\(nN has vals i).length<5 then nN has vals i++[(nm i,oW (oV vals i))] else nN has vals i
theorem Gz (has vals:List Int):∀ k,(nN has vals k).length<=k
 | 0=>Z _
 | k+1=>by
  have h:=Gz has vals k;simp only [nN]
  split
  ·simp; omega
  ·omega
theorem Ce (has vals:List Int):∀ k,(nN has vals k).length<=5
 | 0=>by simp [nN]
 | k+1=>by
  have h:=Ce has vals k;simp only [nN]
  split
  ·rename_i hc; simp; omega
  ·exact h
theorem pX (has vals:List Int):∀ k,∀ x∈nN has vals k,∃ i,i<k/\x.1=nm i
 | 0,x,h=>by simp [nN] at h
 | k+1,x,h=>by
  simp only [nN] at h
  split at h
  ·rcases aH.1 h with h|h
   ·obtain⟨i,h1,h2⟩:=pX has vals k x h;exact⟨i,by omega,h2⟩
   ·simp at h;exact⟨k,by omega,by rw [h]⟩
  ·obtain⟨i,h1,h2⟩:=pX has vals k x h;exact⟨i,by omega,h2⟩
theorem vI (has vals:List Int):∀ k,∀ x∈nN has vals k,fJ x.2=aK
 | 0,x,h=>by simp [nN] at h
 | k+1,x,h=>by
  simp only [nN] at h
  split at h
  ·rcases aH.1 h with h|h
   ·exact vI has vals k x h
   ·simp at h;rw [h]; exact IL _
  ·exact vI has vals k x h
theorem PU (i j:Nat) (h:i<j) (hj:j<7):Op.bytesLess (nm i).toList (nm j).toList=aK:=by
 rw [ByteArray.toList_eq,ByteArray.toList_eq];have:∀ j:Fin 7,∀ i:Fin 7,i.val<j.val->Op.bytesLess (nm i.val).data.toList (nm j.val).data.toList=aK:=by decide
 exact this ⟨j,hj⟩ ⟨i,by omega⟩ h
theorem Cg (has vals:List Int):∀ k,k<=7->iB (nN has vals k)
 | 0,_=>by simp [nN,iB]
 | k+1,hk=>by
  have h:=Cg has vals k (by omega);simp only [nN]
  split
  ·refine List.pairwise_append.2 ⟨h,List.pairwise_singleton _ _,fun x hx y hy=>?_⟩;obtain⟨i,h1,h2⟩:=pX has vals k x hx;simp at hy;rw [hy,h2];exact PU i k h1 (by omega)
  ·exact h
theorem K7 (w:aC) (c:C5):fF (w.alloc (Y #[aA c.1,aF aj c.2.1,aF aj c.2.2.1,aF aj c.2.2.2.1,aA c.2.2.2.2] 91)) (J (V ⟨w.heap.size,0,O⟩) 1 1) [c] :=
 Row.dH (nQ qZ w [c] 1 rfl (by simp) _ rfl)
theorem K8 (hv vv:Value) (has vals:List Int) (w:aC) (hh:mO w hv has) (hw:mO w vv vals) (lh:has.length<=maxLen) (lv:vals.length<=maxLen) :
  aN D 15 #[.agg #[hv,vv]] w fun e w'=>∃ v,e=K v/\iE w' w.heap.size v ((nN has vals 7).map r5)/\ay w.heap.size w w':=by
 have HH:=L hh;have HW:=L hw;have LH:=L lh;have LV:=L lv;clear hh hw lh lv;go_enter Tryz.func15,Tryz.ntmps15;go_wp2_with fail;refine (IK _).mono ?_;rintro e1 w1 ⟨rfl,rfl⟩;go_wp2
 go_loopw [3,8] (fun lv i wr=>∃ k:Nat,k<=7/\i=aF aj k/\iE wr (w.heap.size+2) lv ((nN has vals k).map r5) /\
  ay (w.heap.size+2) ((w.alloc (Y #[hv,vv] 52)).alloc (Y rz 9)) wr) (fun _ i _=>7-(intOf i).toNat)
 case atStart=>exact⟨0,by omega,rfl,iP _ _,ak _ _⟩
 case round =>
  obtain⟨k,hk,rfl,hown,hb⟩:=hrel;have HO:=L hown;have HB:=L hb;have T0:ay w.heap.size w ((w.alloc (Y #[hv,vv] 52)).alloc (Y rz 9)):=((ak _ _).alloc (Z _) _).alloc (by simp) _;have BW:=L (T0.trans (hb.mono (by omega)));have hsz:w.heap.size+2<=wr.heap.size:=by have:=hb.size; simp at this; omega
  clear T0;obtain⟨ro,acP,hrl⟩:=(Row.dH hown).len;rw [List.length_map] at hrl;have hl5:=Gz has vals k;by_cases h7:k<7
  ·have n0:wr.cell? ⟨w.heap.size+1,k,O⟩=V (aA (nm k)):=by
    rw [hb.cell (p:=⟨w.heap.size+1,k,O⟩) (by simp),aD _ _ _ _ (by simp)]; exact Wh k h7
   have b0:wr.cell? ⟨w.heap.size,0,O⟩=V hv:=by
    rw [hb.cell (p:=⟨w.heap.size,0,O⟩) (by simp),aJ _ _ _ (by simp),aD _ _ _ _ rfl]; rfl
   have b1:wr.cell? ⟨w.heap.size,1,O⟩=V vv:=by
    rw [hb.cell (p:=⟨w.heap.size,1,O⟩) (by simp),aJ _ _ _ (by simp),aD _ _ _ _ rfl]; rfl
   have IH:=L (HH.out.on BW.out);obtain⟨ao,acQ,hsh⟩:=HH.out.shape;clear hb hown;subst hsh;subst hrl;have hkk:(k:Int)<7:=by omega
   by_cases h1:k<has.length
   ·obtain⟨y,hy⟩:∃ y,has[k]?=V y:=⟨_,X h1⟩;have hg:has.getD k 0=y:=by rw [List.getD_eq_getElem?_getD,hy]; rfl
    obtain⟨_,p,_,hix,hpc⟩:=IH.out.at_ k y hy;cases ho:odd y
    ·have T:=L (show nN has vals (k+1)=nN has vals k by simp only [nN]; rw [if_neg]; rintro⟨_,h2,_⟩; rw [hg,ho] at h2; cases h2);have hodd:(bits BinOp.and aj y 1 == 1)=aO:=ho;clear ho hy hg;go_wp2
     go_roundw
     case rel=>exact⟨k+1,by omega,by go_num,by rw [T.out]; exact HO.out,HB.out⟩
     case measure=>simp [intOf]; omega
    ·have hodd:(bits BinOp.and aj y 1 == 1)=aK:=ho;by_cases h5:(nN has vals k).length<5
     ·have T:=L (show (nN has vals (k+1)).map r5=(nN has vals k).map r5++[r5 (nm k,oW (oV vals k))] by simp only [nN]; rw [if_pos ⟨h1,by rw [hg,ho],h5⟩,List.map_append]; rfl);have PK:=L (fun (W:aC) (hW:ay w.heap.size w W)=>KT vv vals k W (HW.out.on hW) LV.out (by omega));have bd:=KU HW.out k;have KV:=L (fun W=>vG (nm k) (oV vals k) W bd.1 bd.2);clear ho hy hg bd;go_wp2_with fail;refine (PK.out _ BW.out).mono ?_;rintro e1 w1 ⟨rfl,rfl⟩;go_wp2_with fail;refine (KV.out _).mono ?_;rintro e2 w2 ⟨rfl,hb2⟩;have B2:=L hb2;have O2:=L (dL HO.out hb2);have hs2:=hb2.size;clear hb2;generalize r5 (nm k,oW (oV vals k))=c at T ⊢;have O3a:=L (O2.out.alloc (Y #[aA c.1,aF aj c.2.1,aF aj c.2.2.1,aF aj c.2.2.2.1,aA c.2.2.2.2] 91));obtain⟨v3,w3,r3,o3,g3⟩:=kr qZ (w.heap.size+2) O3a.out (K7 w2 c) (by simp; omega) (by simp) (by simp; omega) 34;have O3:=L o3;have hbel:ay (w.heap.size+2) wr w3:=((B2.out.mono hsz).alloc (by omega) _).grown g3 (by simp; omega) (fun j hj=>(O3a.out.lt j hj).1);have B3:=L (HB.out.trans hbel);clear o3 g3 hbel;go_wp2_with (first | (at_builtin; refine U rfl _ _ 34 rfl rfl rfl r3 ?_) | fail);clear r3;go_wp2
      go_roundw
      case rel=>exact⟨k+1,by omega,by go_num,by rw [T.out]; exact O3.out,B3.out⟩
      case measure=>simp [intOf]; omega
     ·have T:=L (show nN has vals (k+1)=nN has vals k by simp only [nN]; rw [if_neg]; rintro⟨_,_,h2⟩; exact h5 h2);clear ho hy hg;go_wp2
      go_roundw
      case rel=>exact⟨k+1,by omega,by go_num,by rw [T.out]; exact HO.out,HB.out⟩
      case measure=>simp [intOf]; omega
   ·have T:=L (show nN has vals (k+1)=nN has vals k by simp only [nN]; rw [if_neg]; rintro⟨h2,_⟩; exact h1 h2);go_wp2
    go_roundw
    case rel=>exact⟨k+1,by omega,by go_num,by rw [T.out]; exact HO.out,HB.out⟩
    case measure=>simp [intOf]; omega
  ·obtain rfl:k=7:=by omega
   clear hb hown;go_wp2;go_ret;exact⟨_,rfl,KF (by omega) HO.out,BW.out⟩
def Ez (c:Cn):Prop:=c.1.size<=100/\(kT c.2).size<=100/\(-9223372036854775808<=mE c.2/\mE c.2<=9223372036854775807)/\(-9223372036854775808<=mF c.2/\mF c.2<=9223372036854775807)
def K9 (l:List Cn):Prop:=l.length<=100/\∀ c∈l,Ez c
structure NF (l:List Cn):Prop where
 rise:iB l
 five:l.length<=5
 good:∀ c∈l,qz c=aK
 small:∀ c∈l,Ez c
theorem NF.fJ {l:List Cn} (h:NF l):∀ c∈l,Pr.fJ c.2=aK:=fun c hc=>by
 have:=h.good c hc;simp only [qz,au] at this;exact this.2
theorem La (i:Nat) (h:i<7):kR (nm i)=aK:=by
 match i,h with
 | 0,_=>decide
 | 1,_=>decide
 | 2,_=>decide
 | 3,_=>decide
 | 4,_=>decide
 | 5,_=>decide
 | 6,_=>decide
theorem PV (i:Nat):(nm i).size=1:=rfl
theorem Lb (n:Int):(kT (oW n)).size<=100/\(-9223372036854775808<=mE (oW n)/\mE (oW n)<=9223372036854775807)/\(-9223372036854775808<=mF (oW n)/\mF (oW n)<=9223372036854775807):=by
 have h1:=Wi.iR (n.tdiv 4) 0 9 (by omega);have h2:=Wi.iR (n.tdiv 40) 0 9 (by omega);have ht:(Vu n).size<=3:=Bt _;unfold oW Vt
 split
 ·refine⟨by show (0:Nat)<=100; omega,?_,?_⟩ <;> simp only [mE,mF] <;> omega
 ·split
  ·refine⟨by show (Vu n).size<=100; omega,?_,?_⟩ <;> simp only [mE,mF] <;> omega
  ·refine⟨by show (Vu n).size<=100; omega,?_,?_⟩ <;> simp only [mE,mF] <;> omega
theorem sH (has vals:List Int):∀ k,∀ x∈nN has vals k,Ez x
 | 0,x,h=>by simp [nN] at h
 | k+1,x,h=>by
  simp only [nN] at h
  split at h
  ·rcases aH.1 h with h|h
   ·exact sH has vals k x h
   ·simp at h;rw [h];exact⟨by show (nm k).size<=100; rw [PV]; omega,Lb _⟩
  ·exact sH has vals k x h
theorem Lc (has vals:List Int):NF (nN has vals 7) :=
 ⟨Cg has vals 7 (Z _),Ce has vals 7,fun c hc=>by
  obtain⟨i,h1,h2⟩:=pX has vals 7 c hc;simp only [qz,au];exact⟨by rw [h2]; exact La i h1,vI has vals 7 c hc⟩,sH has vals 7⟩
theorem TW {a b:Cn} (h:r5 a=r5 b):a=b:=by
 obtain⟨n,a⟩:=a;obtain⟨m,b⟩:=b;simp only [r5,Prod.mk.injEq] at h;obtain⟨rfl,h1,h2,h3,h4⟩:=h;cases a <;> cases b <;> simp [kN,mE,mF,kT] at h1 h2 h3 h4 <;> simp [*]
end Pr
namespace Rl
open Go.RowKit Pu Pr
def Pp (p:List Cn) (n:ByteArray):Option Cn:=p.find? fun c=>decide (c.1=n)
theorem Ld {p:List Cn} {n:ByteArray} {y:Cn} (h:Pp p n=V y):y∈p/\y.1=n:=⟨List.mem_of_find?_eq_some h,by simpa using List.find?_some h⟩
theorem Wj {p:List Cn} {n:ByteArray} {k:Nat} {y:Cn} (hk:p[k]?=V y) (he:y.1=n) (hn:∀ (j:Nat) (z:Cn),j<k->p[j]?=V z->z.1≠n):Pp p n=V y:=by
 unfold Pp;rw [List.find?_eq_some_iff_getElem];obtain⟨hlt,hy⟩:=aG.1 hk;refine⟨by simpa using he,k,hlt,hy,fun j hj=>?_⟩;have:=hn j p[j] hj (X (by omega));simpa using this
theorem PW {p:List Cn} {n:ByteArray} (hn:∀ (j:Nat) (z:Cn),j<p.length->p[j]?=V z->z.1≠n):Pp p n=O:=by
 unfold Pp;rw [aM];intro x hx;obtain⟨j,hj,e⟩:=List.getElem_of_mem hx;have:=hn j x hj (by rw [X hj,e]);simpa using this
def EB (b:List Cn) (x:Cn):Bool:=match Pp b x.1 with
 | some y=>iI y.2 x.2
 | none=>aO
theorem IV {a b:List Cn} (hb:iB b):mG a b=a.all (EB b):=by
 unfold mG
 congr 1
 funext x
 unfold EB;cases hf:Pp b x.1 with
 | none =>
  rw [List.any_eq_false];intro y hy;have:=aM.1 hf y hy;simp only [decide_eq_true_eq] at this;simp [this]
 | some y =>
  obtain⟨h1,h2⟩:=Ld hf;rw [aI,List.any_eq_true];constructor
  ·rintro⟨z,hz,h3⟩;simp only [au,decide_eq_true_eq] at h3;rw [VT hb h1 hz (h2.trans h3.1.symm)];exact h3.2
  ·intro h3;exact⟨y,h1,by simp [h2,h3]⟩
theorem EG {n:ByteArray} {c d k:Kd} (hc:fJ c=aK) (hd:fJ d=aK) (h:fK c d=V k):KN (r5 (n,k)) (r5 (n,d))=iI d c:=by
 obtain⟨k1,k2⟩:=yw c d k hc hd h;rw [aI,KR];constructor
 ·intro e;have e2:=TW e;obtain rfl:k=d:=congrArg Prod.snd e2;exact xO k c hd fun v hv=>by rw [k2,au] at hv; exact hv.1
 ·intro hi;have:k=d:=Ef k d k1 hd fun v=>by
   rw [k2,aI,au];exact⟨fun h=>h.2,fun h=>⟨qB d c hi v h,h⟩⟩
  rw [this]
theorem EH {c d:Kd} (hd:fJ d=aK) (h:fK c d=O):iI d c=aO:=by
 rw [Bool.eq_false_iff];intro hi;obtain⟨v,hv⟩:=uW d hd;have:=yx c d h v;rw [hv,qB d c hi v hv] at this;cases this
/-! ### samples -/
/-! ### both together -/
end Rl
end Go.Proofs.YtghlpefopidlaaaGreat
