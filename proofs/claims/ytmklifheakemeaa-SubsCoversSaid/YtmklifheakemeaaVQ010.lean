/-
  A region that draws . Conditions as told.
-/
import Derived.Test.YtmklifheakemeaaVQ006
import Derived.Test.YtmklifheakemeaaVQ009
import Derived.Laws.Cover3
import Derived.Lib.QuietBelow
import Derived.BigQuiet
import Derived.Shelf.Slices.In.SortNone
import Derived.Shelf.Sort.Plain
import Derived.Shelf.Slices.CompactI
import Derived.Shelf.Slices.SearchI
import Derived.OpenShut
import Derived.Carry
import Derived.ChangeMaps5
import Derived.ChangeArms
import Derived.Lib.Strings
set_option maxRecDepth 100000
set_option maxHeartbeats 64000000
open _root_.Bool renaming false->aP,true->aZ
open _root_.Go renaming World->U,Value->Z,TypeId->aD,Addr->aW,Calls->bJ
open Go.Builtin renaming append_->aC
open Go.Ending renaming returned->ah
open Go.Instr renaming storeAt->aM
open Go.IntKind renaming i64->au
open Go.Lib renaming hid->ay
open Go.Obj renaming cells->aj
open Go.Proofs.Try renaming prog->L,underlying23->aO,underlying3->aT,underlying0->bg,underlying4->bq,zeroValue23->bA,zeroValue0->bF,zeroValue3->bH,zeroValue4->bI,sizeOf23->bL,ntmps25->bM,ntmps44->bO,ntmps45->bP,ntmps46->bQ,ntmps47->bS,ntmps48->bU,sizeOf0->bW,sizeOf3->bY,sizeOf4->bZ,isAgg23->cu,func25->cB,func44->cK,func45->cO,func46->cZ,func47->dh,func48->dn,isAgg0->dw,isAgg3->dx
open Go.RowKit renaming Below->aN
open Go.RowKit.Below renaming refl->aA,heap_setCell->aG
open Go.Value renaming slice->J,int->ak,bool->aH,pointer->aY
open _root_.List renaming set_cons_succ->aB,getElem?_toArray->aI,length_set->aJ,getElem?_eq_some_iff->aL,getElem?_cons_zero->aQ,getElem?_cons_succ->aR,cons_append->aS,nil_append->aU,mem_cons_of_mem->aV,takeWhile_cons->aX,length->bV
open _root_.Nat renaming le_refl->aF,not_lt_zero->bf,le_trans->bK
open _root_.Option renaming none->O,some->V
open _root_.Or renaming inr->aK,inl->bD
namespace Go.Proofs.Ytmklifheakemeaa.Rg
open Go.RowKit
end Go.Proofs.Ytmklifheakemeaa.Rg
namespace Go.Proofs.Ytmklifheakemeaa.Rg
open Go.RowKit Rw
end Go.Proofs.Ytmklifheakemeaa.Rg
namespace Go.Proofs.Ytmklifheakemeaa.Bk
open Go.RowKit Rw
theorem dK {α:Type} {E:Ek α} {W:U} {B C:Nat} {v:Z} {l:List α} (h:Own E W B v l) (hc:C<=B):Own E W C v l:=by
 refine⟨h.1,?_⟩;rcases h.2 with h2|⟨g,cap,cur,h1,h2,h3⟩
 ·exact bD h2
 ·exact aK ⟨g,cap,cur,h1,bK hc h2,h3⟩
theorem dB {α:Type} {E:Ek α} {W W':U} {B:Nat} {v:Z} {l:List α} (h:Own E W B v l) (hb:aN W.heap.size W W'):Own E W' B v l :=
 h.kept (w':=W') (row:=O) ⟨hb.os,hb.tape,hb.output,hb.size,fun k hk _=>hb.block k hk⟩ (by cases v.ownBlock <;> simp)
theorem dX {α:Type} {E:Ek α} {W:U} {B:Nat} {v:Z} {l:List α} (h:Own E W B v l) (b k:Nat) (x:Z) (hb:b<B):Own E (W.setCell ⟨b,k,O⟩ x) B v l :=
 h.kept (w':=W.setCell ⟨b,k,O⟩ x) (row:=V b) ⟨rfl,rfl,rfl,by simp [World.setCell],fun j _ hne=>aG _ _ _ _ (fun e=>hne (by rw [e]))⟩ (by
  cases hv:v.ownBlock with
  | none=>exact bD rfl
  | some j =>
   refine aK fun e=>?_;injection e with e
   have h1:=(h.lt j hv).1;omega)
theorem add_one (x y:Operand) (t:aD) (w:U) (k:Nat) (hk:k<=900):(do eqGuard .add t x y (ak au k) (ak au 1); binOp .add t (ak au k) (ak au 1):Sem Z).run L w=.ok (ak au ((k:Int)+1)) w:=by
 have h:IntKind.i64.wrap ((k:Int)+1)=(k:Int)+1:=IntWalk.i64_in _ (by omega);simp [eqGuard,binOp,Op.intArith,go_sem,h]
theorem dY {W:U} {rb k:Nat} {cs:Array Z} {t:aD} (h:dH W rb cs t) (x:Z):dH (W.setCell ⟨rb,k,O⟩ x) rb (cs.setIfInBounds k x) t:=heap_setCell_same W rb k cs t x h
end Go.Proofs.Ytmklifheakemeaa.Bk
namespace Go.Proofs.Ytmklifheakemeaa.Av
open Go.RowKit Rw Ytmklifheakemeaa.Nm Pr Bk Rg
theorem EZ (a:Option aW) (n c:Nat) (w:U):(binOp .eql 23 (J a n c) (J O 0 0)).run L w=.ok (aH a.isNone) w:=by
 simp [go_sem,binOp,run_equal_slice_nil (P:=L) w 23 3 a n c aO]
theorem rU (v:Sl) (l:List Int) (w:U) (hv:Row EI w (dR v) l) (hl:l.length<=900) :
  bJ L 25 #[dR v] w fun e w'=>(∃ v':Sl,e=ah (dR v')/\Own EI w' w.heap.size (dR v') l)/\aN w.heap.size w w':=by
 obtain⟨vo,vn,vc⟩:=v;rcases hv with⟨rfl,hv⟩|⟨a,cap,hv,h1,h2,h3⟩
 ·obtain⟨rfl,rfl,rfl⟩:vo=O/\vn=0/\vc=0:=by simpa using hv
  clear hv hl;have q:∀ w',(binOp .eql 23 (J O 0 0) (J O 0 0)).run L w'=.ok (aH aZ) w':=fun w'=>EZ O 0 0 w';go_enter cB,bM;go_wp2;go_ret;exact⟨⟨(O,0,0),rfl,iJ _ _⟩,aA _ _⟩
 ·obtain⟨rfl,rfl,rfl⟩:vo=V a/\vn=l.length/\vc=cap:=by simpa using hv
  have hx:Row EI w (J (V a) l.length vc) l:=aK ⟨a,vc,rfl,h1,h2,h3⟩;have n0:=iG w (aj #[] 3);obtain⟨q0,w0,r0,o0,g0⟩:=jy Nm.Il w.heap.size (dO w #[] 3) (aF _) (hx.on n0) (by omega) 23;obtain⟨v1,v3,hv1⟩:=(Row.dM o0).len;obtain⟨n,hn⟩:∃ n,n=l.length:=⟨_,rfl⟩;have Q:=ay (show (∃ v':Sl,ah q0=ah (dR v')/\Own EI w0 w.heap.size (dR v') l)/\aN w.heap.size w w0 from ⟨⟨(v1,l.length,v3),by rw [hv1],by subst hv1; exact o0⟩,n0.trans (g0.mono n0.size)⟩);rw [<- hn] at r0 ⊢;clear hv h1 h2 h3 hx o0 g0 n0 hv1 hn hl;have q:∀ w',(binOp .eql 23 (J (V a) n vc) (J O 0 0)).run L w'=.ok (aH aP) w':=fun w'=>EZ (V a) n vc w';have r0:(aC #[23,23] 23 #[J (V ⟨w.heap.size,0,O⟩) 0 0,J (V a) n vc]).run L (w.alloc (aj #[] 3))=.ok q0 w0:=r0;go_enter cB,bM;go_wp2_with (first | (at_builtin; refine wpList_append_run rfl _ _ 23 rfl rfl rfl r0 ?_) | fail);go_ret;exact Q.out
theorem E5 (a:Option aW) (n c:Nat) (w:U):(binOp .eql 27 (J a n c) (J O 0 0)).run L w=.ok (aH a.isNone) w:=by
 simp [go_sem,binOp,run_equal_slice_nil (P:=L) w 27 25 a n c Try.underlying27]
theorem Ah (v:Sl) (l:List eu) (w:U) (hv:Row EJ w (dR v) l) (hl:l.length<=900) :
  bJ L 44 #[dR v] w fun e w'=>(∃ v':Sl,e=ah (dR v')/\Own EJ w' w.heap.size (dR v') l)/\aN w.heap.size w w':=by
 obtain⟨vo,vn,vc⟩:=v;rcases hv with⟨rfl,hv⟩|⟨a,cap,hv,h1,h2,h3⟩
 ·obtain⟨rfl,rfl,rfl⟩:vo=O/\vn=0/\vc=0:=by simpa using hv
  clear hv hl;have q:∀ w',(binOp .eql 27 (J O 0 0) (J O 0 0)).run L w'=.ok (aH aZ) w':=fun w'=>E5 O 0 0 w';go_enter cK,bO;go_wp2;go_ret;exact⟨⟨(O,0,0),rfl,iJ _ _⟩,aA _ _⟩
 ·obtain⟨rfl,rfl,rfl⟩:vo=V a/\vn=l.length/\vc=cap:=by simpa using hv
  have hx:Row EJ w (J (V a) l.length vc) l:=aK ⟨a,vc,rfl,h1,h2,h3⟩;have n0:=iG w (aj #[] 25);obtain⟨q0,w0,r0,o0,g0⟩:=jy qY w.heap.size (dO w #[] 25) (aF _) (hx.on n0) (by omega) 27;obtain⟨v1,v3,hv1⟩:=(Row.dM o0).len;obtain⟨n,hn⟩:∃ n,n=l.length:=⟨_,rfl⟩;have Q:=ay (show (∃ v':Sl,ah q0=ah (dR v')/\Own EJ w0 w.heap.size (dR v') l)/\aN w.heap.size w w0 from ⟨⟨(v1,l.length,v3),by rw [hv1],by subst hv1; exact o0⟩,n0.trans (g0.mono n0.size)⟩);rw [<- hn] at r0 ⊢;clear hv h1 h2 h3 hx o0 g0 n0 hv1 hn hl;have q:∀ w',(binOp .eql 27 (J (V a) n vc) (J O 0 0)).run L w'=.ok (aH aP) w':=fun w'=>E5 (V a) n vc w';have r0:(aC #[27,27] 27 #[J (V ⟨w.heap.size,0,O⟩) 0 0,J (V a) n vc]).run L (w.alloc (aj #[] 25))=.ok q0 w0:=r0;go_enter cK,bO;go_wp2_with (first | (at_builtin; refine wpList_append_run rfl _ _ 27 rfl rfl rfl r0 ?_) | fail);go_ret;exact Q.out
theorem E8 (a:Option aW) (n c:Nat) (w:U):(binOp .eql 26 (J a n c) (J O 0 0)).run L w=.ok (aH a.isNone) w:=by
 simp [go_sem,binOp,run_equal_slice_nil (P:=L) w 26 37 a n c Try.underlying26]
theorem Ai (v:Sl) (l:List jr) (w:U) (hv:Row ED w (dR v) l) (hl:l.length<=900) :
  bJ L 45 #[dR v] w fun e w'=>(∃ v':Sl,e=ah (dR v')/\Own ED w' w.heap.size (dR v') l)/\aN w.heap.size w w':=by
 obtain⟨vo,vn,vc⟩:=v;rcases hv with⟨rfl,hv⟩|⟨a,cap,hv,h1,h2,h3⟩
 ·obtain⟨rfl,rfl,rfl⟩:vo=O/\vn=0/\vc=0:=by simpa using hv
  clear hv hl;have q:∀ w',(binOp .eql 26 (J O 0 0) (J O 0 0)).run L w'=.ok (aH aZ) w':=fun w'=>E8 O 0 0 w';go_enter cO,bP;go_wp2;go_ret;exact⟨⟨(O,0,0),rfl,iJ _ _⟩,aA _ _⟩
 ·obtain⟨rfl,rfl,rfl⟩:vo=V a/\vn=l.length/\vc=cap:=by simpa using hv
  have hx:Row ED w (J (V a) l.length vc) l:=aK ⟨a,vc,rfl,h1,h2,h3⟩;have n0:=iG w (aj #[] 37);obtain⟨q0,w0,r0,o0,g0⟩:=jy okD w.heap.size (dO w #[] 37) (aF _) (hx.on n0) (by omega) 26;obtain⟨v1,v3,hv1⟩:=(Row.dM o0).len;obtain⟨n,hn⟩:∃ n,n=l.length:=⟨_,rfl⟩;have Q:=ay (show (∃ v':Sl,ah q0=ah (dR v')/\Own ED w0 w.heap.size (dR v') l)/\aN w.heap.size w w0 from ⟨⟨(v1,l.length,v3),by rw [hv1],by subst hv1; exact o0⟩,n0.trans (g0.mono n0.size)⟩);rw [<- hn] at r0 ⊢;clear hv h1 h2 h3 hx o0 g0 n0 hv1 hn hl;have q:∀ w',(binOp .eql 26 (J (V a) n vc) (J O 0 0)).run L w'=.ok (aH aP) w':=fun w'=>E8 (V a) n vc w';have r0:(aC #[26,26] 26 #[J (V ⟨w.heap.size,0,O⟩) 0 0,J (V a) n vc]).run L (w.alloc (aj #[] 37))=.ok q0 w0:=r0;go_enter cO,bP;go_wp2_with (first | (at_builtin; refine wpList_append_run rfl _ _ 26 rfl rfl rfl r0 ?_) | fail);go_ret;exact Q.out
theorem E9 (a:Option aW) (n c:Nat) (w:U):(binOp .eql 28 (J a n c) (J O 0 0)).run L w=.ok (aH a.isNone) w:=by
 simp [go_sem,binOp,run_equal_slice_nil (P:=L) w 28 43 a n c Try.underlying28]
theorem Aj (v:Sl) (l:List gM) (w:U) (hv:Row EN w (dR v) l) (hl:l.length<=900) :
  bJ L 46 #[dR v] w fun e w'=>(∃ v':Sl,e=ah (dR v')/\Own EN w' w.heap.size (dR v') l)/\aN w.heap.size w w':=by
 obtain⟨vo,vn,vc⟩:=v;rcases hv with⟨rfl,hv⟩|⟨a,cap,hv,h1,h2,h3⟩
 ·obtain⟨rfl,rfl,rfl⟩:vo=O/\vn=0/\vc=0:=by simpa using hv
  clear hv hl;have q:∀ w',(binOp .eql 28 (J O 0 0) (J O 0 0)).run L w'=.ok (aH aZ) w':=fun w'=>E9 O 0 0 w';go_enter cZ,bQ;go_wp2;go_ret;exact⟨⟨(O,0,0),rfl,iJ _ _⟩,aA _ _⟩
 ·obtain⟨rfl,rfl,rfl⟩:vo=V a/\vn=l.length/\vc=cap:=by simpa using hv
  have hx:Row EN w (J (V a) l.length vc) l:=aK ⟨a,vc,rfl,h1,h2,h3⟩;have n0:=iG w (aj #[] 43);obtain⟨q0,w0,r0,o0,g0⟩:=jy kK w.heap.size (dO w #[] 43) (aF _) (hx.on n0) (by omega) 28;obtain⟨v1,v3,hv1⟩:=(Row.dM o0).len;obtain⟨n,hn⟩:∃ n,n=l.length:=⟨_,rfl⟩;have Q:=ay (show (∃ v':Sl,ah q0=ah (dR v')/\Own EN w0 w.heap.size (dR v') l)/\aN w.heap.size w w0 from ⟨⟨(v1,l.length,v3),by rw [hv1],by subst hv1; exact o0⟩,n0.trans (g0.mono n0.size)⟩);rw [<- hn] at r0 ⊢;clear hv h1 h2 h3 hx o0 g0 n0 hv1 hn hl;have q:∀ w',(binOp .eql 28 (J (V a) n vc) (J O 0 0)).run L w'=.ok (aH aP) w':=fun w'=>E9 (V a) n vc w';have r0:(aC #[28,28] 28 #[J (V ⟨w.heap.size,0,O⟩) 0 0,J (V a) n vc]).run L (w.alloc (aj #[] 43))=.ok q0 w0:=r0;go_enter cZ,bQ;go_wp2_with (first | (at_builtin; refine wpList_append_run rfl _ _ 28 rfl rfl rfl r0 ?_) | fail);go_ret;exact Q.out
theorem Fa (a:Option aW) (n c:Nat) (w:U):(binOp .eql 29 (J a n c) (J O 0 0)).run L w=.ok (aH a.isNone) w:=by
 simp [go_sem,binOp,run_equal_slice_nil (P:=L) w 29 90 a n c Try.underlying29]
theorem Ak (v:Sl) (l:List uL) (w:U) (hv:Row EW w (dR v) l) (hl:l.length<=900) :
  bJ L 47 #[dR v] w fun e w'=>(∃ v':Sl,e=ah (dR v')/\Own EW w' w.heap.size (dR v') l)/\aN w.heap.size w w':=by
 obtain⟨vo,vn,vc⟩:=v;rcases hv with⟨rfl,hv⟩|⟨a,cap,hv,h1,h2,h3⟩
 ·obtain⟨rfl,rfl,rfl⟩:vo=O/\vn=0/\vc=0:=by simpa using hv
  clear hv hl;have q:∀ w',(binOp .eql 29 (J O 0 0) (J O 0 0)).run L w'=.ok (aH aZ) w':=fun w'=>Fa O 0 0 w';go_enter dh,bS;go_wp2;go_ret;exact⟨⟨(O,0,0),rfl,iJ _ _⟩,aA _ _⟩
 ·obtain⟨rfl,rfl,rfl⟩:vo=V a/\vn=l.length/\vc=cap:=by simpa using hv
  have hx:Row EW w (J (V a) l.length vc) l:=aK ⟨a,vc,rfl,h1,h2,h3⟩;have n0:=iG w (aj #[] 90);obtain⟨q0,w0,r0,o0,g0⟩:=jy okW w.heap.size (dO w #[] 90) (aF _) (hx.on n0) (by omega) 29;obtain⟨v1,v3,hv1⟩:=(Row.dM o0).len;obtain⟨n,hn⟩:∃ n,n=l.length:=⟨_,rfl⟩;have Q:=ay (show (∃ v':Sl,ah q0=ah (dR v')/\Own EW w0 w.heap.size (dR v') l)/\aN w.heap.size w w0 from ⟨⟨(v1,l.length,v3),by rw [hv1],by subst hv1; exact o0⟩,n0.trans (g0.mono n0.size)⟩);rw [<- hn] at r0 ⊢;clear hv h1 h2 h3 hx o0 g0 n0 hv1 hn hl;have q:∀ w',(binOp .eql 29 (J (V a) n vc) (J O 0 0)).run L w'=.ok (aH aP) w':=fun w'=>Fa (V a) n vc w';have r0:(aC #[29,29] 29 #[J (V ⟨w.heap.size,0,O⟩) 0 0,J (V a) n vc]).run L (w.alloc (aj #[] 90))=.ok q0 w0:=r0;go_enter dh,bS;go_wp2_with (first | (at_builtin; refine wpList_append_run rfl _ _ 29 rfl rfl rfl r0 ?_) | fail);go_ret;exact Q.out
theorem Fb (a:Option aW) (n c:Nat) (w:U):(binOp .eql 35 (J a n c) (J O 0 0)).run L w=.ok (aH a.isNone) w:=by
 simp [go_sem,binOp,run_equal_slice_nil (P:=L) w 35 56 a n c Try.underlying35]
theorem lU (v:Sl) (l:List C5) (w:U) (hv:Row EC w (dR v) l) (hl:l.length<=900) :
  bJ L 48 #[dR v] w fun e w'=>(∃ v':Sl,e=ah (dR v')/\Own EC w' w.heap.size (dR v') l)/\aN w.heap.size w w':=by
 obtain⟨vo,vn,vc⟩:=v;rcases hv with⟨rfl,hv⟩|⟨a,cap,hv,h1,h2,h3⟩
 ·obtain⟨rfl,rfl,rfl⟩:vo=O/\vn=0/\vc=0:=by simpa using hv
  clear hv hl;have q:∀ w',(binOp .eql 35 (J O 0 0) (J O 0 0)).run L w'=.ok (aH aZ) w':=fun w'=>Fb O 0 0 w';go_enter dn,bU;go_wp2;go_ret;exact⟨⟨(O,0,0),rfl,iJ _ _⟩,aA _ _⟩
 ·obtain⟨rfl,rfl,rfl⟩:vo=V a/\vn=l.length/\vc=cap:=by simpa using hv
  have hx:Row EC w (J (V a) l.length vc) l:=aK ⟨a,vc,rfl,h1,h2,h3⟩;have n0:=iG w (aj #[] 56);obtain⟨q0,w0,r0,o0,g0⟩:=jy Ib w.heap.size (dO w #[] 56) (aF _) (hx.on n0) (by omega) 35;obtain⟨v1,v3,hv1⟩:=(Row.dM o0).len;obtain⟨n,hn⟩:∃ n,n=l.length:=⟨_,rfl⟩;have Q:=ay (show (∃ v':Sl,ah q0=ah (dR v')/\Own EC w0 w.heap.size (dR v') l)/\aN w.heap.size w w0 from ⟨⟨(v1,l.length,v3),by rw [hv1],by subst hv1; exact o0⟩,n0.trans (g0.mono n0.size)⟩);rw [<- hn] at r0 ⊢;clear hv h1 h2 h3 hx o0 g0 n0 hv1 hn hl;have q:∀ w',(binOp .eql 35 (J (V a) n vc) (J O 0 0)).run L w'=.ok (aH aP) w':=fun w'=>Fb (V a) n vc w';have r0:(aC #[35,35] 35 #[J (V ⟨w.heap.size,0,O⟩) 0 0,J (V a) n vc]).run L (w.alloc (aj #[] 56))=.ok q0 w0:=r0;go_enter dn,bU;go_wp2_with (first | (at_builtin; refine wpList_append_run rfl _ _ 35 rfl rfl rfl r0 ?_) | fail);go_ret;exact Q.out
end Go.Proofs.Ytmklifheakemeaa.Av
namespace Go.Proofs.Ytmklifheakemeaa.Bk
open Go.RowKit Go.Sort Rw Ytmklifheakemeaa.Nm Pr
theorem Fe (l:List Id) (x:Id) (k:Nat) (hall:∀ (j:Nat) (y:Id),j<k->l[j]?=V y->dW y x=aZ) (hend:k=l.length\/∃ y,l[k]?=V y/\dW y x=aP):jm l x=k:=by
 unfold jm
 induction l generalizing k with
 | nil =>
  rcases hend with h|⟨y,h,_⟩
  ·rw [h]; rfl
  ·simp at h
 | cons a l ih =>
  cases k with
  | zero =>
   rcases hend with h|⟨y,h,h2⟩
   ·simp at h
   ·obtain rfl:a=y:=by simpa using h
    rw [aX,h2]
    rfl
  | succ k =>
   have h0:=hall 0 a (by omega) rfl;rw [aX,h0];simp only [if_true,List.length_cons];rw [ih k (fun j y hj hy=>hall (j+1) y (by omega) (by simpa using hy)) (by
    rcases hend with h|⟨y,h,h2⟩
    ·exact bD (by simpa using h)
    ·exact aK ⟨y,by simpa using h,h2⟩)]
def fP {α:Type} (l:List α) (k:Nat) (x:α):List α:=l.take k++[x]++l.drop k
def mK (b:Br) (a:Ad):Br×Bool:=if a.id∈b.seen then (b,aP) else ({ b with seen:=fP b.seen (jm b.seen a.id) a.id,fI:=fP b.fI (jm (b.fI.map Ad.id) a.id) a },aZ)
abbrev iD (W:U) (b:Nat) (a0 a1 a2 a3 a4 a5:Z):U:=(((((W.setCell ⟨b,0,O⟩ a0).setCell ⟨b,1,O⟩ a1).setCell ⟨b,2,O⟩ a2).setCell ⟨b,3,O⟩ a3).setCell ⟨b,4,O⟩ a4).setCell ⟨b,5,O⟩ a5
theorem eD {W:U} {b:Nat} {t:aD} {z0 z1 z2 z3 z4 z5:Z} (h:dH W b #[z0,z1,z2,z3,z4,z5] t) (a0 a1 a2 a3 a4 a5:Z):dH (iD W b a0 a1 a2 a3 a4 a5) b #[a0,a1,a2,a3,a4,a5] t:=by
 have h2:=dY (k:=5) (dY (k:=4) (dY (k:=3) (dY (k:=2) (dY (k:=1) (dY (k:=0) h a0) a1) a2) a3) a4) a5;simp only [List.setIfInBounds_toArray,List.set_cons_zero,aB] at h2;exact h2
theorem dQ {w W:U} {B b:Nat} (h:Below B w W) (hb:B<=b) (a0 a1 a2 a3 a4 a5:Z):Below B w (iD W b a0 a1 a2 a3 a4 a5) :=
 (((((h.setCell hb _).setCell hb _).setCell hb _).setCell hb _).setCell hb _).setCell hb _
theorem CW {α:Type} {E:Ek α} {W:U} {B:Nat} {v:Z} {l:List α} (h:Own E W B v l) (b:Nat) (hb:b<B) (a0 a1 a2 a3 a4 a5:Z):Own E (iD W b a0 a1 a2 a3 a4 a5) B v l :=
 dX (dX (dX (dX (dX (dX h b 0 a0 hb) b 1 a1 hb) b 2 a2 hb) b 3 a3 hb) b 4 a4 hb) b 5 a5 hb
theorem nT (w:U) (c d e:Array Z) (r s t:aD):Below w.heap.size w (((w.alloc (aj c r)).alloc (aj d s)).alloc (aj e t))/\dH (((w.alloc (aj c r)).alloc (aj d s)).alloc (aj e t)) w.heap.size c r/\dH (((w.alloc (aj c r)).alloc (aj d s)).alloc (aj e t)) (w.heap.size+1) d s/\dH (((w.alloc (aj c r)).alloc (aj d s)).alloc (aj e t)) (w.heap.size+1+1) e t:=by
 refine⟨(((aA _ _).alloc (aF _) _).alloc (by simp) _).alloc (by simp; omega) _,((dO w c r).more _).more _,?_,?_⟩
 ·have h:=(dO (w.alloc (aj c r)) d s).more (aj e t);simpa using h
 ·have h:=dO ((w.alloc (aj c r)).alloc (aj d s)) e t;simpa using h
theorem mM (l:List Id) (x:Id):jm l x<=l.length:=by
 unfold jm;exact (List.takeWhile_sublist _).length_le
def cutAt {α:Type} (l:List α) (k:Nat):List α:=l.take k++l.drop (k+1)
theorem MF (a b c d:Int) (r:Bool) (h:(!(a == c && b == d))=r) (w:U):(binOp .neq 25 (.agg #[ak au a,ak au b]) (.agg #[ak au c,ak au d])).run L w=.ok (aH r) w:=by
 have st:=Bt;subst h;by_cases h1:a=c <;> by_cases h2:b=d <;> simp [go_sem,Try.underlying25,aT,st,h1,h2]
structure wM (b:Br):Prop where
 near:b.near.length<=900
 fI:b.fI.length<=900
 seen:b.seen.length<=900
 ent:b.ent.length<=900
 own:b.own.length<=900
end Go.Proofs.Ytmklifheakemeaa.Bk
namespace Go.Proofs.Ytmklifheakemeaa.Av
open Go.RowKit Go.Sort Rw Ytmklifheakemeaa.Nm Pr Bk
abbrev Fp (W:U) (b:Nat) (a0 a1 a2 a3:Z):U:=(((W.setCell ⟨b,0,O⟩ a0).setCell ⟨b,1,O⟩ a1).setCell ⟨b,2,O⟩ a2).setCell ⟨b,3,O⟩ a3
theorem rW {W:U} {b:Nat} {t:aD} {z0 z1 z2 z3:Z} (h:dH W b #[z0,z1,z2,z3] t) (a0 a1 a2 a3:Z):dH (Fp W b a0 a1 a2 a3) b #[a0,a1,a2,a3] t:=by
 have h2:=dY (k:=3) (dY (k:=2) (dY (k:=1) (dY (k:=0) h a0) a1) a2) a3;simpa using h2
theorem oM {B:Nat} {W0 W:U} {b:Nat} (h:Below B W0 W) (hb:B<=b) (a0 a1 a2 a3:Z):Below B W0 (Fp W b a0 a1 a2 a3) :=
 (((h.setCell (p:=⟨b,0,O⟩) hb a0).setCell (p:=⟨b,1,O⟩) hb a1).setCell (p:=⟨b,2,O⟩) hb a2).setCell (p:=⟨b,3,O⟩) hb a3
theorem xO {α:Type} {E:Ek α} {W:U} {B:Nat} {v:Z} {l:List α} (h:Own E W B v l) (b:Nat) (hb:b<B) (a0 a1 a2 a3:Z):Own E (Fp W b a0 a1 a2 a3) B v l :=
 dX (dX (dX (dX h b 0 a0 hb) b 1 a1 hb) b 2 a2 hb) b 3 a3 hb
theorem rX (x:jr) (p:List C5) (w:U) (hp:iy w (dR x.2.2.1) p) (hl:p.length<=900) :
  bJ L 21 #[kL x] w fun e w'=>(∃ v':Sl,e=ah (kL (x.1,x.2.1,v',x.2.2.2))/\qA w' w.heap.size (dR v') p)/\Below w.heap.size w w':=by
 obtain⟨a,b,⟨s1,s2,s3⟩,q⟩:=x;obtain⟨h0,X,Y⟩:=iT w #[ak au a,ak au b,J s1 s2 s3,ak au q] #[ak au 0,ak au 0,J O 0 0,ak au 0] 37 37;have C:=ay (lU (s1,s2,s3) p _ (hp.on h0) hl);have B:=ay h0;have x2:=X.cell 2;simp only [aI,aQ,aR] at x2;have X:=ay X;have Y:=ay Y;clear h0 hp hl;go_enter Try.func21,Try.ntmps21;go_wp2_with fail;generalize (w.alloc (aj #[ak au a,ak au b,J s1 s2 s3,ak au q] 37)).alloc (aj #[ak au 0,ak au 0,J O 0 0,ak au 0] 37)=W at *;refine C.out.mono ?_;rintro e w1 ⟨⟨⟨u1,u2,u3⟩,rfl,ho⟩,hb⟩;have X1:=X.out.on hb;have Y1:=Y.out.on hb;have hs:w.heap.size<W.heap.size:=X.out.lt;have O1:=ay (dX ho w.heap.size 2 (J u1 u2 u3) hs);have XB:=ay (show dH _ _ #[ak au a,ak au b,J u1 u2 u3,ak au q] _ from by simpa using dY (k:=2) X1 (J u1 u2 u3));have YB:=ay (show dH _ _ _ _ from (aG w1 ⟨w.heap.size,2,O⟩ (J u1 u2 u3) _ (show w.heap.size+1≠w.heap.size by omega)).trans Y1);have B1:=ay ((B.out.trans (hb.mono B.out.size)).setCell (p:=⟨w.heap.size,2,O⟩) (aF _) (J u1 u2 u3));have y2:=X1.cell 2;have f2:=X1.fr 2;have z2:=X1.lt;simp only [aI,aQ,aR] at y2;clear X1 Y1 ho hb x2 C;go_upto_region 2 with fail;clear y2 f2 z2;generalize w1.setCell ⟨w.heap.size,2,O⟩ (J u1 u2 u3)=w2 at *;obtain⟨x0,x1,x2,x3⟩:=XB.out.Ew;obtain⟨r0,r1,r2,r3⟩:=YB.out.Ew;obtain⟨t0,t1,t2,t3⟩:=YB.out.O8;have zz:=YB.out.lt;have hs2:w.heap.size+1<W.heap.size:=Y.out.lt;have FB:=ay (rW YB.out (ak au a) (ak au b) (J u1 u2 u3) (ak au q));have BL:=ay (oM (b:=w.heap.size+1) B1.out (by omega) (ak au a) (ak au b) (J u1 u2 u3) (ak au q));have FO:=ay (xO O1.out (w.heap.size+1) hs2 (ak au a) (ak au b) (J u1 u2 u3) (ak au q));have HS:=ay hs;clear hs hs2;go_wp2_with fail;obtain⟨v0,v1,v2,v3⟩:=FB.out.Ew;refine bodyPost_ret (v:=.agg #[ak au a,ak au b,J u1 u2 u3,ak au q]) (by simp [results,Try.results21,go_sem,v0,v1,v2,v3]) rfl ?_;exact⟨⟨(u1,u2,u3),rfl,dK FO.out (Nat.le_of_lt HS.out)⟩,BL.out⟩
theorem gW {α:Type} {E:Ek α} (K:E.Ok) {W:U} {B g n cap k:Nat} {l:List α} {x:α} (h:Own E W B (J (V ⟨g,0,O⟩) n cap) l) (hk:l[k]?=V x):∀ w,Below W.heap.size W w->∀ j u,(E.cells x)[j]?=V u->w.cell? ((⟨g,k * E.n,O⟩:aW).add j)=V u:=by
 obtain⟨ao,c,hv⟩:=(Row.dM h).len;obtain⟨rfl,rfl,rfl⟩:V ⟨g,0,O⟩=ao/\n=l.length/\cap=c:=by simpa using hv
 obtain⟨p,h1,_,h2⟩:=oK K (Row.dM h) rfl rfl hk;have h3:=nQ K g k l.length cap (aL.1 hk).1 W;rw [h1] at h3;injection h3 with h4 _
 injection h4 with h5
 injection h5 with h6
 subst h6;exact h2
theorem gu {α:Type} {E:Ek α} {W:U} {B g n cap:Nat} {l:List α} (h:Own E W B (J (V ⟨g,0,O⟩) n cap) l):∃ cur,dH W g cur E.t:=by
 rcases fD h with⟨h1,_⟩|⟨g',c',cur,h1,_,h2,_⟩
 ·cases h1
 ·obtain⟨rfl,_⟩:g=g'/\True:=by simp at h1; exact⟨h1.1,trivial⟩
  exact⟨cur,h2⟩
theorem iO {W:U} {b g:Nat} {c d:Array Z} {s t:aD} (hb:dH W b c s) (hg:dH W g d t) (hne:(s == t)=aP):b≠g:=by
 rintro rfl;unfold dH at hb hg;rw [hb] at hg;injection hg with h
 injection h with _ h2
 rw [h2] at hne;simp at hne
def But (g:Nat) (W x:U):Prop:=(∀ k,k<W.heap.size->k≠g->x.heap[k]?=W.heap[k]?)/\W.heap.size<=x.heap.size
theorem But.box {g b:Nat} {W x:U} {cs:Array Z} {t:aD} (h:But g W x) (hb:dH W b cs t) (hne:b≠g):dH x b cs t:=(h.1 b hb.lt hne).trans hb
theorem But.own {α:Type} {E:Ek α} {g:Nat} {W x:U} {B:Nat} {v:Z} {l:List α} {d:Array Z} {t:aD} (h:But g W x) (ho:Own E W B v l) (hg:dH W g d t) (hne:(E.t == t)=aP):Own E x B v l:=by
 refine⟨ho.1,?_⟩;rcases ho.2 with h2|⟨g',cap,cur,h1,h2,h3,h4⟩
 ·exact bD h2
 ·exact aK ⟨g',cap,cur,h1,h2,by rw [h.1 g' (lt_of_heap h3) (iO (show dH W g' cur E.t from h3) hg hne)]; exact h3,h4⟩
theorem vE:∀ (l:List jr) (k:Nat) (x:jr),k<l.length->flat ED (l.set k x)=((((flat ED l).set (k * 4) (ak au x.1)).set (k * 4+1) (ak au x.2.1)).set (k * 4+2) (dR x.2.2.1)).set (k * 4+3) (ak au x.2.2.2)
 | [],k,x,h=>by simp at h
 | y::r,0,x,_=>rfl
 | y::r,k+1,x,h=>by
  have ih:=vE r k x (by simpa using h);rw [show (k+1) * 4+3=(k * 4+3)+1+1+1+1 by omega,show (k+1) * 4+2=(k * 4+2)+1+1+1+1 by omega,show (k+1) * 4+1=(k * 4+1)+1+1+1+1 by omega,show (k+1) * 4=(k * 4)+1+1+1+1 by omega];simp only [aB,flat,ED,cellsD,aS,aU] at ih ⊢;rw [ih]
theorem vF:∀ (l:List gM) (k:Nat) (x:gM) (s:Sl),l[k]?=V x->flat EN (l.set k (x.1,x.2.1,x.2.2.1,x.2.2.2.1,s,x.2.2.2.2.2.1,x.2.2.2.2.2.2))=(flat EN l).set (k * 7+4) (dR s)
 | [],k,x,s,h=>by simp at h
 | y::r,0,x,s,h=>by
  obtain rfl:y=x:=by simpa using h
  rfl
 | y::r,k+1,x,s,h=>by
  have ih:=vF r k x s (by simpa using h);rw [show (k+1) * 7+4=(k * 7+4)+1+1+1+1+1+1+1 by omega];simp only [aB,flat,EN,gU,aS,aU] at ih ⊢;rw [ih]
theorem vG:∀ (l:List uL) (k:Nat) (x:uL) (s:Sl),l[k]?=V x->flat EW (l.set k (x.1,x.2.1,s))=(flat EW l).set (k * 3+2) (dR s)
 | [],k,x,s,h=>by simp at h
 | y::r,0,x,s,h=>by
  obtain rfl:y=x:=by simpa using h
  rfl
 | y::r,k+1,x,s,h=>by
  have ih:=vG r k x s (by simpa using h);rw [show (k+1) * 3+2=(k * 3+2)+1+1+1 by omega];simp only [aB,flat,EW,wI,aS,aU] at ih ⊢;rw [ih]
def Ki {α:Type} (E:Ek α) (B g:Nat) (v:Z) (l:List α) (w w':U):Prop:=Own E w' B v l/\But g w w'/\(∀ B' W,B'<=g->Below B' W w->Below B' W w')
theorem dL (w:U) (g j:Nat) (u:Z):But g w (w.setCell ⟨g,j,O⟩ u):=⟨fun k _ hk=>aG w ⟨g,j,O⟩ u k hk,by simp⟩
theorem But.trans {g:Nat} {a b c:U} (h1:But g a b) (h2:But g b c):But g a c:=⟨fun k hk hne=>(h2.1 k (Nat.lt_of_lt_of_le hk h1.2) hne).trans (h1.1 k hk hne),bK h1.2 h2.2⟩
theorem But.of_below {g:Nat} {a b:U} (h:Below a.heap.size a b):But g a b:=⟨fun k hk _=>h.block k hk,h.size⟩
theorem Kj {w:U} {B g n cap k:Nat} {l:List jr} (x:jr) (h:oL w B (J (V ⟨g,0,O⟩) n cap) l) (hk:k<l.length) :
  ∃ w',(aM 37 (aY (V ⟨g,k * 4,O⟩)) (kL x)).run L w=.ok () w'/\Ki ED B g (J (V ⟨g,0,O⟩) n cap) (l.set k x) w w':=by
 obtain⟨y,hy⟩:∃ y,l[k]?=V y:=⟨_,List.getElem?_eq_getElem hk⟩;have c:=gW okD h hy w (aA _ _);have c0:=c 0 _ rfl;have c1:=c 1 _ rfl;have c2:=c 2 _ rfl;have c3:=c 3 _ rfl;simp [Addr.add,ED] at c0 c1 c2 c3;obtain⟨cur,hb⟩:=gu h;have f:=fun j=>hb.fr j;obtain⟨ao,c',hv⟩:=(Row.dM h).len;obtain⟨_,rfl,_⟩:V ⟨g,0,O⟩=ao/\n=l.length/\cap=c':=by simpa using hv
 have h:w.ownsRow B 37 4 (J (V ⟨g,0,O⟩) l.length cap) l.length (flat ED l):=h;have s1:=(h.stored (k * 4) (ak au x.1)).1;have s2:=(s1.stored (k * 4+1) (ak au x.2.1)).1;have s3:=(s2.stored (k * 4+2) (dR x.2.2.1)).1;have s4:=(s3.stored (k * 4+3) (ak au x.2.2.2)).1;refine⟨(((w.setCell ⟨g,k * 4,O⟩ (ak au x.1)).setCell ⟨g,k * 4+1,O⟩ (ak au x.2.1)).setCell ⟨g,k * 4+2,O⟩ (dR x.2.2.1)).setCell ⟨g,k * 4+3,O⟩ (ak au x.2.2.2),?_,?_,((dL _ g _ _).trans (dL _ g _ _)).trans ((dL _ g _ _).trans (dL _ g _ _)),fun B' W hB hb=>(((hb.setCell (p:=⟨g,_,O⟩) hB _).setCell (p:=⟨g,_,O⟩) hB _).setCell (p:=⟨g,_,O⟩) hB _).setCell (p:=⟨g,_,O⟩) hB _⟩
 ·simp [go_sem,c0,c1,c2,c3,f]
 ·have e:=vE l k x hk;show World.ownsRow _ B 37 4 _ (l.set k x).length (flat ED (l.set k x));rw [e,aJ];exact s4
theorem Kk {w:U} {B g n cap k:Nat} {l:List gM} {x:gM} (s1:Option aW) (s2 s3:Nat) (h:jl w B (J (V ⟨g,0,O⟩) n cap) l) (hk:l[k]?=V x) :
  ∃ w',(aM 35 (aY (V ⟨g,k * 7+4,O⟩)) (J s1 s2 s3)).run L w=.ok () w'/\Ki EN B g (J (V ⟨g,0,O⟩) n cap) (l.set k (x.1,x.2.1,x.2.2.1,x.2.2.2.1,(s1,s2,s3),x.2.2.2.2.2.1,x.2.2.2.2.2.2)) w w':=by
 have c:=gW kK h hk w (aA _ _);have c4:=c 4 _ rfl;simp [Addr.add,EN] at c4;obtain⟨cur,hb⟩:=gu h;have f:=hb.fr (k * 7+4);obtain⟨ao,c',hv⟩:=(Row.dM h).len;obtain⟨_,rfl,_⟩:V ⟨g,0,O⟩=ao/\n=l.length/\cap=c':=by simpa using hv
 have h:w.ownsRow B 43 7 (J (V ⟨g,0,O⟩) l.length cap) l.length (flat EN l):=h;have t1:=(h.stored (k * 7+4) (J s1 s2 s3)).1;refine⟨w.setCell ⟨g,k * 7+4,O⟩ (J s1 s2 s3),by simp [go_sem,c4,f],?_,dL _ g _ _,fun B' W hB hb=>hb.setCell (p:=⟨g,_,O⟩) hB _⟩;have e:=vF l k x (s1,s2,s3) hk;show World.ownsRow _ B 43 7 _ (bV _) (flat EN _);rw [e,aJ];exact t1
theorem Kl {w:U} {B g n cap k:Nat} {l:List uL} {x:uL} (s1:Option aW) (s2 s3:Nat) (h:wJ w B (J (V ⟨g,0,O⟩) n cap) l) (hk:l[k]?=V x) :
  ∃ w',(aM 35 (aY (V ⟨g,k * 3+2,O⟩)) (J s1 s2 s3)).run L w=.ok () w'/\Ki EW B g (J (V ⟨g,0,O⟩) n cap) (l.set k (x.1,x.2.1,(s1,s2,s3))) w w':=by
 have c:=gW okW h hk w (aA _ _);have c2:=c 2 _ rfl;simp [Addr.add,EW] at c2;obtain⟨cur,hb⟩:=gu h;have f:=hb.fr (k * 3+2);obtain⟨ao,c',hv⟩:=(Row.dM h).len;obtain⟨_,rfl,_⟩:V ⟨g,0,O⟩=ao/\n=l.length/\cap=c':=by simpa using hv
 have h:w.ownsRow B 90 3 (J (V ⟨g,0,O⟩) l.length cap) l.length (flat EW l):=h;have t1:=(h.stored (k * 3+2) (J s1 s2 s3)).1;refine⟨w.setCell ⟨g,k * 3+2,O⟩ (J s1 s2 s3),by simp [go_sem,c2,f],?_,dL _ g _ _,fun B' W hB hb=>hb.setCell (p:=⟨g,_,O⟩) hB _⟩;have e:=vG l k x (s1,s2,s3) hk;show World.ownsRow _ B 90 3 _ (bV _) (flat EW _);rw [e,aJ];exact t1
theorem eF.set {α β:Type} {R:α->β->Prop}:∀ {l:List α} {m:List β} (k:Nat) (a:α) (b:β),eF R l m->m[k]?=V b->R a b->eF R (l.set k a) m
 | _,_,_,_,_,.nil,h,_=>by simp at h
 | _,_,0,a,b,.cons x t,h,hr=>by
  simp at h;subst h;exact .cons hr t
 | _,_,k+1,a,b,.cons x t,h,hr=>.cons x (eF.set k a b t (by simpa using h) hr)
def PM (w0:U) (B:Nat) (wr:U) (v:Z) (p:List C5):Prop:=iy w0 v p\/qA wr B v p
def zV (w0:U) (B:Nat) (wr:U) (x:jr) (a:Ad):Prop:=(x.1,x.2.1)=a.id/\x.2.2.2=a.par/\PM w0 B wr (dR x.2.2.1) a.p
def mh (w0:U) (B:Nat) (wr:U) (x:gM) (a:En):Prop:=(x.1,x.2.1)=a.tree/\(x.2.2.1,x.2.2.2.1)=a.sub/\x.2.2.2.2.2.1=a.from_/\x.2.2.2.2.2.2=a.up/\PM w0 B wr (dR x.2.2.2.2.1) a.p
def Bu (w0:U) (B:Nat) (wr:U) (x:uL) (a:Ow):Prop:=(x.1,x.2.1)=a.id/\PM w0 B wr (dR x.2.2) a.p
theorem PM.grow {w0 wr x:U} {B:Nat} {v:Z} {p:List C5} (h:PM w0 B wr v p) (hb:Below wr.heap.size wr x):PM w0 B x v p:=h.imp id fun h=>Bk.dB h hb
theorem PM.but {w0 wr x:U} {B:Nat} {v:Z} {p:List C5} {g:Nat} {d:Array Z} {t:aD} (h:PM w0 B wr v p) (hb:But g wr x) (hg:dH wr g d t) (hne:(56 == t)=aP):PM w0 B x v p:=h.imp id fun h=>hb.own h hg hne
theorem PM.row {w0 wr:U} {B:Nat} {v:Z} {p:List C5} (h:PM w0 B wr v p) (hb:Below w0.heap.size w0 wr):iy wr v p:=h.elim (fun h=>h.on hb) Row.dM
theorem zV.grow {w0 wr x:U} {B:Nat} {y:jr} {a:Ad} (h:zV w0 B wr y a) (hb:Below wr.heap.size wr x):zV w0 B x y a:=⟨h.1,h.2.1,h.2.2.grow hb⟩
theorem mh.grow {w0 wr x:U} {B:Nat} {y:gM} {a:En} (h:mh w0 B wr y a) (hb:Below wr.heap.size wr x):mh w0 B x y a:=⟨h.1,h.2.1,h.2.2.1,h.2.2.2.1,h.2.2.2.2.grow hb⟩
theorem Bu.grow {w0 wr x:U} {B:Nat} {y:uL} {a:Ow} (h:Bu w0 B wr y a) (hb:Below wr.heap.size wr x):Bu w0 B x y a:=⟨h.1,h.2.grow hb⟩
theorem zV.but {w0 wr x:U} {B:Nat} {y:jr} {a:Ad} {g:Nat} {d:Array Z} {t:aD} (h:zV w0 B wr y a) (hb:But g wr x) (hg:dH wr g d t) (hne:(56 == t)=aP):zV w0 B x y a:=⟨h.1,h.2.1,h.2.2.but hb hg hne⟩
theorem mh.but {w0 wr x:U} {B:Nat} {y:gM} {a:En} {g:Nat} {d:Array Z} {t:aD} (h:mh w0 B wr y a) (hb:But g wr x) (hg:dH wr g d t) (hne:(56 == t)=aP):mh w0 B x y a:=⟨h.1,h.2.1,h.2.2.1,h.2.2.2.1,h.2.2.2.2.but hb hg hne⟩
theorem Bu.but {w0 wr x:U} {B:Nat} {y:uL} {a:Ow} {g:Nat} {d:Array Z} {t:aD} (h:Bu w0 B wr y a) (hb:But g wr x) (hg:dH wr g d t) (hne:(56 == t)=aP):Bu w0 B x y a:=⟨h.1,h.2.but hb hg hne⟩
def vw (w:U):U:={ w with heap:=#[] }
theorem rY {w x:U} {B:Nat} (h:Below B w x):Below (vw w).heap.size (vw w) x:=⟨h.os,h.tape,h.output,Nat.zero_le _,fun k hk=>absurd hk (bf k)⟩
theorem IE (w:U) (a:aW):(vw w).cell? a=O:=by
 unfold World.cell? vw;simp
theorem Ao {α:Type} {E:Ek α} {w x:U} {v:Z} {l:List α} (h:Row E (vw w) v l):Row E x v l:=by
 rcases h with h|⟨a,cap,h1,h2,h3,h4⟩
 ·exact bD h
 ·refine aK ⟨a,cap,h1,h2,h3,fun j u hj=>?_⟩;have h5:=h4 j u hj;rw [IE] at h5;cases h5
theorem oG {α:Type}:∀ (l:List α) (k:Nat) (x:α),k<l.length->(l.set k x).take (k+1)=l.take k++[x]
 | [],k,x,h=>absurd h (bf k)
 | _::_,0,_,_=>rfl
 | a::l,k+1,x,h=>by
  rw [aB,List.take_succ_cons,oG l k x (by simpa using h)]
  rfl
theorem qD {α β:Type} {R:α->β->Prop} {l:List α} {m:List β} {k:Nat} {x:α} {y:β} (h:eF R (l.take k) (m.take k)) (hk:k<l.length) (hy:m[k]?=V y) (hx:R x y):eF R ((l.set k x).take (k+1)) (m.take (k+1)):=by
 rw [oG l k x hk,List.take_add_one,hy];exact h.append (.cons hx .nil)
structure Cp (w0:U) (B:Nat) (wr:U) (b:Br) (nv av sv ev ov:Sl):Prop where
 near:rO wr B (dR nv) b.near
 seen:mG wr B (dR sv) b.seen
 fI:∃ l,oL wr B (dR av) l/\eF (zV w0 B wr) l b.fI
 ent:∃ l,jl wr B (dR ev) l/\eF (mh w0 B wr) l b.ent
 own:∃ l,wJ wr B (dR ov) l/\eF (Bu w0 B wr) l b.own
theorem Cp.grow {w0 wr x:U} {B:Nat} {b:Br} {nv av sv ev ov:Sl} (h:Cp w0 B wr b nv av sv ev ov) (hb:Below wr.heap.size wr x):Cp w0 B x b nv av sv ev ov where
 near:=Bk.dB h.near hb
 seen:=Bk.dB h.seen hb
 fI:=by obtain⟨l,h1,h2⟩:=h.fI; exact⟨l,Bk.dB h1 hb,h2.mono fun _ _ h=>h.grow hb⟩
 ent:=by obtain⟨l,h1,h2⟩:=h.ent; exact⟨l,Bk.dB h1 hb,h2.mono fun _ _ h=>h.grow hb⟩
 own:=by obtain⟨l,h1,h2⟩:=h.own; exact⟨l,Bk.dB h1 hb,h2.mono fun _ _ h=>h.grow hb⟩
theorem Cp.but {w0 wr x:U} {B:Nat} {b:Br} {nv av sv ev ov:Sl} (h:Cp w0 B wr b nv av sv ev ov) {g:Nat} {d:Array Z} (hb:But g wr x) (hg:dH wr g d 31):Cp w0 B x b nv av sv ev ov where
 near:=hb.own h.near hg (by decide)
 seen:=hb.own h.seen hg (by decide)
 fI:=by obtain⟨l,h1,h2⟩:=h.fI; exact⟨l,hb.own h1 hg (by decide),h2.mono fun _ _ h=>h.but hb hg (by decide)⟩
 ent:=by obtain⟨l,h1,h2⟩:=h.ent; exact⟨l,hb.own h1 hg (by decide),h2.mono fun _ _ h=>h.but hb hg (by decide)⟩
 own:=by obtain⟨l,h1,h2⟩:=h.own; exact⟨l,hb.own h1 hg (by decide),h2.mono fun _ _ h=>h.but hb hg (by decide)⟩
structure Cs (w0 w wr:U) (b:Br) (kd kn kw:Nat) (nv av sv ev ov:Sl):Prop where
 oC:Below w.heap.size w wr
 bx:dH wr w.heap.size #[ak au b.me,dR nv,dR av,dR sv,dR ev,dR ov] 31
 bz:dH wr (w.heap.size+1) #[ak au 0,J O 0 0,J O 0 0,J O 0 0,J O 0 0,J O 0 0] 31
 near:rO wr w.heap.size (dR nv) b.near
 seen:mG wr w.heap.size (dR sv) b.seen
 fI:∃ l,oL wr w.heap.size (dR av) l/\eF (zV w0 w.heap.size wr) l b.fI/\eF (zV (vw w0) w.heap.size wr) (l.take kd) (b.fI.take kd)
 ent:∃ l,jl wr w.heap.size (dR ev) l/\eF (mh w0 w.heap.size wr) l b.ent/\eF (mh (vw w0) w.heap.size wr) (l.take kn) (b.ent.take kn)
 own:∃ l,wJ wr w.heap.size (dR ov) l/\eF (Bu w0 w.heap.size wr) l b.own/\eF (Bu (vw w0) w.heap.size wr) (l.take kw) (b.own.take kw)
theorem Cs.Fp {w0 w wr x:U} {b:Br} {kd kn kw kd':Nat} {nv sv ev ov:Sl} {g n cap:Nat} {l l':List jr} (h:Cs w0 w wr b kd kn kw nv (V ⟨g,0,O⟩,n,cap) sv ev ov) (ho:oL wr w.heap.size (J (V ⟨g,0,O⟩) n cap) l) (hx:oL x w.heap.size (J (V ⟨g,0,O⟩) n cap) l') (hb:But g wr x) (hw:Below w.heap.size w x) (hA:eF (zV w0 w.heap.size x) l' b.fI) (hV:eF (zV (vw w0) w.heap.size x) (l'.take kd') (b.fI.take kd')):Cs w0 w x b kd' kn kw nv (V ⟨g,0,O⟩,n,cap) sv ev ov:=by
 obtain⟨cur,hg⟩:=gu ho;exact {
  oC:=hw
  bx:=hb.box h.bx (iO h.bx hg (by decide))
  bz:=hb.box h.bz (iO h.bz hg (by decide))
  near:=hb.own h.near hg (by decide)
  seen:=hb.own h.seen hg (by decide)
  fI:=⟨l',hx,hA,hV⟩
  ent:=by obtain⟨l,h1,h2,h3⟩:=h.ent; exact⟨l,hb.own h1 hg (by decide),h2.mono fun _ _ h=>h.but hb hg (by decide),h3.mono fun _ _ h=>h.but hb hg (by decide)⟩
  own:=by obtain⟨l,h1,h2,h3⟩:=h.own; exact⟨l,hb.own h1 hg (by decide),h2.mono fun _ _ h=>h.but hb hg (by decide),h3.mono fun _ _ h=>h.but hb hg (by decide)⟩ }
theorem Cs.Ph {w0 w wr x:U} {b:Br} {kd kn kw Pj:Nat} {nv av sv ov:Sl} {g n cap:Nat} {l l':List gM} (h:Cs w0 w wr b kd kn kw nv av sv (V ⟨g,0,O⟩,n,cap) ov) (ho:jl wr w.heap.size (J (V ⟨g,0,O⟩) n cap) l) (hx:jl x w.heap.size (J (V ⟨g,0,O⟩) n cap) l') (hb:But g wr x) (hw:Below w.heap.size w x) (hA:eF (mh w0 w.heap.size x) l' b.ent) (hV:eF (mh (vw w0) w.heap.size x) (l'.take Pj) (b.ent.take Pj)):Cs w0 w x b kd Pj kw nv av sv (V ⟨g,0,O⟩,n,cap) ov:=by
 obtain⟨cur,hg⟩:=gu ho;exact {
  oC:=hw
  bx:=hb.box h.bx (iO h.bx hg (by decide))
  bz:=hb.box h.bz (iO h.bz hg (by decide))
  near:=hb.own h.near hg (by decide)
  seen:=hb.own h.seen hg (by decide)
  fI:=by obtain⟨l,h1,h2,h3⟩:=h.fI; exact⟨l,hb.own h1 hg (by decide),h2.mono fun _ _ h=>h.but hb hg (by decide),h3.mono fun _ _ h=>h.but hb hg (by decide)⟩
  ent:=⟨l',hx,hA,hV⟩
  own:=by obtain⟨l,h1,h2,h3⟩:=h.own; exact⟨l,hb.own h1 hg (by decide),h2.mono fun _ _ h=>h.but hb hg (by decide),h3.mono fun _ _ h=>h.but hb hg (by decide)⟩ }
theorem Cs.setW {w0 w wr x:U} {b:Br} {kd kn kw Pk:Nat} {nv av sv ev:Sl} {g n cap:Nat} {l l':List uL} (h:Cs w0 w wr b kd kn kw nv av sv ev (V ⟨g,0,O⟩,n,cap)) (ho:wJ wr w.heap.size (J (V ⟨g,0,O⟩) n cap) l) (hx:wJ x w.heap.size (J (V ⟨g,0,O⟩) n cap) l') (hb:But g wr x) (hw:Below w.heap.size w x) (hA:eF (Bu w0 w.heap.size x) l' b.own) (hV:eF (Bu (vw w0) w.heap.size x) (l'.take Pk) (b.own.take Pk)):Cs w0 w x b kd kn Pk nv av sv ev (V ⟨g,0,O⟩,n,cap):=by
 obtain⟨cur,hg⟩:=gu ho;exact {
  oC:=hw
  bx:=hb.box h.bx (iO h.bx hg (by decide))
  bz:=hb.box h.bz (iO h.bz hg (by decide))
  near:=hb.own h.near hg (by decide)
  seen:=hb.own h.seen hg (by decide)
  fI:=by obtain⟨l,h1,h2,h3⟩:=h.fI; exact⟨l,hb.own h1 hg (by decide),h2.mono fun _ _ h=>h.but hb hg (by decide),h3.mono fun _ _ h=>h.but hb hg (by decide)⟩
  ent:=by obtain⟨l,h1,h2,h3⟩:=h.ent; exact⟨l,hb.own h1 hg (by decide),h2.mono fun _ _ h=>h.but hb hg (by decide),h3.mono fun _ _ h=>h.but hb hg (by decide)⟩
  own:=⟨l',hx,hA,hV⟩ }
end Go.Proofs.Ytmklifheakemeaa.Av
namespace Go.Proofs.Ytmklifheakemeaa.Rg
open Go.RowKit
def qB (bl:List Z):List Nat->List Z->List Z
 | d::D,v::vs=>(qB bl D vs).set d v
 | _,_=>bl
theorem rV (bl:List Z):∀ (D:List Nat) (vs:List Z),(qB bl D vs).length=bl.length
 | [],_=>rfl
 | _::_,[]=>rfl
 | d::D,v::vs=>by
  show ((qB bl D vs).set d v).length=_;rw [aJ];exact rV bl D vs
def Pf (a:Act):List Nat->List Z->Prop
 | d::D,v::vs=>a.tmps[d]?=V v/\Pf a D vs
 | _,_=>True
theorem vD (bl:List Z) (a:Act) (j:Nat):∀ (D:List Nat) (vs:List Z),vs.length=D.length->Pf a D vs->(∀ d∈D,d<bl.length)->(qB bl D vs)[j]?=if j∈D then a.tmps[j]? else bl[j]?
 | [],_,_,_,_=>by rw [if_neg (by simp)]; rfl
 | _::_,[],h,_,_=>by simp at h
 | d::D,v::vs,hl,ha,h=>by
  have ih:=vD bl a j D vs (by simpa using hl) ha.2 fun x hx=>h x (aV _ hx);show ((qB bl D vs).set d v)[j]?=_;by_cases e:d=j
  ·subst e;rw [List.getElem?_set_self (by rw [rV]; exact h d (by simp)),if_pos (by simp)];exact ha.1.symm
  ·rw [List.getElem?_set_ne e,ih];by_cases hj:j∈D
   ·rw [if_pos hj,if_pos (aV _ hj)]
   ·rw [if_neg hj,if_neg fun q=>(List.mem_cons.1 q).elim (fun q=>e q.symm) hj]
theorem mO {a:Act} {bl:List Z} (D:List Nat) (vs:List Z) (df:a.defers=[]) (sz:a.tmps.size=bl.length) (hD:∀ d∈D,d<bl.length) (kp:∀ j,j ∉ D->a.tmps[j]?=bl[j]?) (hl:vs.length=D.length) (ha:Pf a D vs) :
  a=⟨(qB bl D vs).toArray,[]⟩:=by
 have hk:=fun j=>vD bl a j D vs hl ha hD;obtain⟨tmps,defers⟩:=a;have hd:defers=[]:=df;subst hd;refine congrArg (fun x=>(⟨x,[]⟩:Act)) (Array.ext_getElem? fun j=>?_)
 conv=>rhs; rw [aI]
 rw [hk j];by_cases hj:j∈D
 ·rw [if_pos hj]
 ·rw [if_neg hj];exact kp j hj
theorem dD {a:Act} {n:Nat} (sz:a.tmps.size=n) (d:Nat) (h:d<n):∃ v,a.tmps[d]?=V v:=⟨_,Array.getElem?_eq_getElem (by rw [sz]; exact h)⟩
end Go.Proofs.Ytmklifheakemeaa.Rg
namespace Go.Proofs.Ytmklifheakemeaa.Bk
open Go.RowKit Rw Ytmklifheakemeaa.Nm Pr
theorem rZ {W:U} {b:Nat} {cs:Array Z} {t:aD} (hb:dH W b cs t) {a:aW} {v:Z} (h:W.cell? a=V v) (e:a.block=b):cs[a.off]?=V v:=by
 unfold World.cell? at h;unfold dH at hb;rw [e,hb] at h;have h2:a.spot=O/\cs[a.off]?=V v:=by simpa using h
 exact h2.2
theorem C9 {W W':U} {b:Nat} (hk:∀ j,j<W.heap.size->j≠b->W'.heap[j]?=W.heap[j]?) {a:aW} {v:Z} (h:W.cell? a=V v) (e:a.block≠b):W'.cell? a=V v:=by
 have hlt:=World.block_lt_of_cell? W _ h;unfold World.cell? at h ⊢;rw [hk _ hlt e];exact h
theorem iU (a:aW) (j:Nat):(a.add j).block=a.block:=by unfold Addr.add; split <;> rfl
theorem iP {α:Type} {E:Ek α} (_K:E.Ok) {W W':U} {b:Nat} {v:Z} {l:List α} (h:Row E W v l) (hk:∀ j,j<W.heap.size->j≠b->W'.heap[j]?=W.heap[j]?) (hno:∀ (a:aW) (c:α),(∀ j u,(E.cells c)[j]?=V u->W.cell? (a.add j)=V u)->a.block≠b):Row E W' v l:=by
 rcases h with h|⟨a,cap,h1,h2,h3,h4⟩
 ·exact bD h
 ·refine aK ⟨a,cap,h1,h2,h3,fun j u hj=>?_⟩;cases l with
  | nil=>simp [flat] at hj
  | cons c r =>
   have hne:a.block≠b:=hno a c fun j u hj=>h4 j u (by
    rw [flat,List.getElem?_append_left (by exact (aL.1 hj).1)];exact hj)
   exact C9 hk (h4 j u hj) (by rw [iU]; exact hne)
theorem mP {α:Type} {E:Ek α} {W:U} {b:Nat} {cs:Array Z} {t:aD} (hb:dH W b cs t) (hE:∀ c:α,∃ i j:Int,(E.cells c)[0]?=V (ak au i)/\(E.cells c)[1]?=V (ak au j)) (hcs:∀ (k:Nat) (i j:Int),cs[k]?=V (ak au i)->cs[k+1]?=V (ak au j)->False) (a:aW) (c:α) (h:∀ j u,(E.cells c)[j]?=V u->W.cell? (a.add j)=V u):a.block≠b:=fun e=>by
 obtain⟨i,j,h0,h1⟩:=hE c;have c0:=rZ hb (h 0 _ h0) (by rw [iU]; exact e);have c1:=rZ hb (h 1 _ h1) (by rw [iU]; exact e);have o0:(a.add 0).off=a.off:=by rw [Addr.add_zero']
 have o1:(a.add 1).off=a.off+1:=by rw [add_pos _ _ (by decide)]
 rw [o0] at c0;rw [o1] at c1;exact hcs a.off i j c0 c1
theorem pJ {W:U} {b:Nat} {cs:Array Z} {t:aD} (hb:dH W b cs t) (hcs:∀ (k:Nat) (s:ByteArray),cs[k]?≠V (.string s)) (a:aW) (c:C5) (h:∀ j u,(EC.cells c)[j]?=V u->W.cell? (a.add j)=V u):a.block≠b:=fun e=>by
 have c0:=rZ hb (h 0 _ rfl) (by rw [iU]; exact e);exact hcs _ _ c0
theorem pK (me:Int) (s1 s2 s3 s4 s5:Sl):∀ (k:Nat) (i j:Int),(lT me s1 s2 s3 s4 s5)[k]?=V (ak au i)->(lT me s1 s2 s3 s4 s5)[k+1]?=V (ak au j)->False:=by
 intro k i j h1 h2
 match k with
 | 0=>simp at h2
 | 1=>simp at h1
 | 2=>simp at h1
 | 3=>simp at h1
 | 4=>simp at h1
 | 5=>simp at h1
 | k+6=>simp at h1
theorem rC (me:Int) (s1 s2 s3 s4 s5:Sl):∀ (k:Nat) (s:ByteArray),(lT me s1 s2 s3 s4 s5)[k]?≠V (.string s):=by
 intro k s h
 match k with
 | 0=>simp at h
 | 1=>simp at h
 | 2=>simp at h
 | 3=>simp at h
 | 4=>simp at h
 | 5=>simp at h
 | k+6=>simp at h
theorem Da {W W':U} {k:Nat} {me:Int} {s1 s2 s3 s4 s5:Sl} {b:Br} {nv av sv ev ov:Sl} (h:kM W b nv av sv ev ov) (hb:dH W k (lT me s1 s2 s3 s4 s5) 31) (hk:∀ j,j<W.heap.size->j≠k->W'.heap[j]?=W.heap[j]?) (hn:xD W' (dR nv) b.near):kM W' b nv av sv ev ov where
 near:=hn
 fI:=by
  obtain⟨l,h1,h2⟩:=h.fI;exact⟨l,iP okD h1 hk (mP hb (fun c=>⟨_,_,rfl,rfl⟩) (pK me s1 s2 s3 s4 s5)),h2.mono fun x a hx=>⟨hx.1,hx.2.1,iP Ib hx.2.2 hk (pJ hb (rC me s1 s2 s3 s4 s5))⟩⟩
 seen:=iP qY h.seen hk (mP hb (fun c=>⟨_,_,rfl,rfl⟩) (pK me s1 s2 s3 s4 s5))
 ent:=by
  obtain⟨l,h1,h2⟩:=h.ent;exact⟨l,iP kK h1 hk (mP hb (fun c=>⟨_,_,rfl,rfl⟩) (pK me s1 s2 s3 s4 s5)),h2.mono fun x a hx=>⟨hx.1,hx.2.1,hx.2.2.1,hx.2.2.2.1,iP Ib hx.2.2.2.2 hk (pJ hb (rC me s1 s2 s3 s4 s5))⟩⟩
 own:=by
  obtain⟨l,h1,h2⟩:=h.own;exact⟨l,iP okW h1 hk (mP hb (fun c=>⟨_,_,rfl,rfl⟩) (pK me s1 s2 s3 s4 s5)),h2.mono fun x a hx=>⟨hx.1,iP Ib hx.2 hk (pJ hb (rC me s1 s2 s3 s4 s5))⟩⟩
end Go.Proofs.Ytmklifheakemeaa.Bk
namespace Go.Proofs.Ytmklifheakemeaa.Bk
open Go.RowKit Go.Sort Rw Ytmklifheakemeaa.Nm Pr
theorem kS {W:U} {b:Nat} {z0 z1 z2 z3 z4 z5:Z} (h:dH W b #[z0,z1,z2,z3,z4,z5] 31) (me:Int) (o1 o2 o3 o4 o5:Option aW) (n1 c1 n2 c2 n3 c3 n4 c4 n5 c5:Nat) :
  (aM 31 (aY (V ⟨b,0,O⟩)) (.agg #[ak au me,J o1 n1 c1,J o2 n2 c2,J o3 n3 c3,J o4 n4 c4,J o5 n5 c5])).run L W=.ok () (iD W b (ak au me) (J o1 n1 c1) (J o2 n2 c2) (J o3 n3 c3) (J o4 n4 c4) (J o5 n5 c5)):=by
 obtain⟨x0,x1,x2,x3,x4,x5⟩:=h.jc;obtain⟨f0,f1,f2,f3,f4,f5⟩:=h.wE;simp [go_sem,x0,x1,x2,x3,x4,x5,f0,f1,f2,f3,f4,f5]
theorem oN {W:U} {b:Nat} {z0 z1 z2 z3 z4 z5:Z} (h:dH W b #[z0,z1,z2,z3,z4,z5] 31):(Instr.loadAt 31 (aY (V ⟨b,0,O⟩))).run L W=.ok (.agg #[z0,z1,z2,z3,z4,z5]) W:=by
 obtain⟨x0,x1,x2,x3,x4,x5⟩:=h.jc;simp [go_sem,x0,x1,x2,x3,x4,x5]
theorem nU {P:Program} (ρ:Operand->Z) (o:Oper) (x y z:Operand) (t s r:aD) (f:FuncId) (ho:o.op=.call { callee:=.value (.func f),args:=#[x,y,z],argTypes:=#[t,s,r] }) {v u q:Z} (hx:ρ x=v) (hy:ρ y=u) (hz:ρ z=q) (hf:ρ (.func f)=.func (.func f) #[] #[]) (w:U)
  (hc:(callFunc f #[v,u,q]).run P w=.ok (.enter f #[v,u,q]) w):(execOp ρ o).run P w=.ok (.enter f #[v,u,q]) w:=by
 simp [execOp,ho,resolve,invoke,hx,hy,hz,hf,Deferred.ofValue,hc]
end Go.Proofs.Ytmklifheakemeaa.Bk
namespace Go.Proofs
open Go.Shelf
def Try.sortI_ren:Go.Shelf.Ren:=⟨fun | 189=>26 | 125=>56 | 257=>55 | 128=>81 | 129=>82 | 294=>72 | 295=>73 | 296=>74 | 297=>75 | 298=>76 | 299=>77 | 216=>78 | 300=>79 | 301=>80 | 328=>88 | 329=>89 | 330=>90 | 331=>91 | 332=>92 | 215=>71 | 343=>98 | n=>n,fun | 28=>23 | 3=>3 | 46=>100 | 0=>0 | 51=>122 | 53=>124 | 4=>4 | 183=>115 | 182=>114 | 131=>68 | 5=>5 | 9=>9 | 218=>125 | 222=>129 | 228=>138 | 229=>139 | n=>n,fun | n=>n⟩
theorem Try.sortI:Go.Proofs.Lays.n189 L Try.sortI_ren:={
 mixed:=by kernel_rfl
 f125:=Try.func56.trans (congrArg V (by kernel_rfl))
 f128:=Try.func81.trans (congrArg V (by kernel_rfl))
 f129:=Try.func82.trans (congrArg V (by kernel_rfl))
 f189:=Try.func26.trans (congrArg V (by kernel_rfl))
 f215:=Try.func71.trans (congrArg V (by kernel_rfl))
 f216:=Try.func78.trans (congrArg V (by kernel_rfl))
 f257:=Try.func55.trans (congrArg V (by kernel_rfl))
 f294:=Try.func72.trans (congrArg V (by kernel_rfl))
 f295:=Try.func73.trans (congrArg V (by kernel_rfl))
 f296:=Try.func74.trans (congrArg V (by kernel_rfl))
 f297:=Try.func75.trans (congrArg V (by kernel_rfl))
 f298:=Try.func76.trans (congrArg V (by kernel_rfl))
 f299:=Try.func77.trans (congrArg V (by kernel_rfl))
 f300:=Try.func79.trans (congrArg V (by kernel_rfl))
 f301:=Try.func80.trans (congrArg V (by kernel_rfl))
 f328:=Try.func88.trans (congrArg V (by kernel_rfl))
 f329:=Try.func89.trans (congrArg V (by kernel_rfl))
 f330:=Try.func90.trans (congrArg V (by kernel_rfl))
 f331:=Try.func91.trans (congrArg V (by kernel_rfl))
 f332:=Try.func92.trans (congrArg V (by kernel_rfl))
 f343:=Try.func98.trans (congrArg V (by kernel_rfl))
 t0:=bg
 a0:=dw
 z0:=bW
 v0:=bF
 t3:=aT
 a3:=dx
 z3:=bY
 v3:=bH
 t4:=bq
 a4:=Try.isAgg4
 z4:=bZ
 v4:=bI
 t5:=Try.underlying5
 a5:=Try.isAgg5
 z5:=Try.sizeOf5
 v5:=Try.zeroValue5
 t9:=Try.underlying9
 a9:=Try.isAgg9
 z9:=Try.sizeOf9
 v9:=Try.zeroValue9
 t28:=aO
 a28:=cu
 z28:=bL
 v28:=bA
 t46:=Try.underlying100
 a46:=Try.isAgg100
 z46:=Try.sizeOf100
 v46:=Try.zeroValue100
 t51:=Try.underlying122
 a51:=Try.isAgg122
 z51:=Try.sizeOf122
 v51:=Try.zeroValue122
 t53:=Try.underlying124
 a53:=Try.isAgg124
 z53:=Try.sizeOf124
 v53:=Try.zeroValue124
 t131:=Try.underlying68
 a131:=Try.isAgg68
 z131:=Try.sizeOf68
 v131:=Try.zeroValue68
 t182:=Try.underlying114
 a182:=Try.isAgg114
 z182:=Try.sizeOf114
 v182:=Try.zeroValue114
 t183:=Try.underlying115
 a183:=Try.isAgg115
 z183:=Try.sizeOf115
 v183:=Try.zeroValue115
 t218:=Try.underlying125
 a218:=Try.isAgg125
 z218:=Try.sizeOf125
 v218:=Try.zeroValue125
 t222:=Try.underlying129
 a222:=Try.isAgg129
 z222:=Try.sizeOf129
 v222:=Try.zeroValue129
 t228:=Try.underlying138
 a228:=Try.isAgg138
 z228:=Try.sizeOf138
 v228:=Try.zeroValue138
 t229:=Try.underlying139
 a229:=Try.isAgg139
 z229:=Try.sizeOf139
 v229:=Try.zeroValue139 }
def Try.cptI_ren:Go.Shelf.Ren:=⟨fun | 20=>27 | n=>n,fun | 0=>0 | 3=>3 | 4=>4 | 22=>23 | n=>n,fun | n=>n⟩
theorem Try.cptI:Go.Proofs.Lays2.n20 L Try.cptI_ren:={
 mixed:=by kernel_rfl
 i3:=by kernel_rfl
 f20:=Try.func27.trans (congrArg V (by kernel_rfl))
 t0:=bg
 a0:=dw
 z0:=bW
 v0:=bF
 t3:=aT
 a3:=dx
 z3:=bY
 v3:=bH
 t4:=bq
 a4:=Try.isAgg4
 z4:=bZ
 v4:=bI
 t22:=aO
 a22:=cu
 z22:=bL
 v22:=bA }
end Go.Proofs
namespace Go.Proofs.Ytmklifheakemeaa.Ar
open Go.ChangeShapes Go.WideShapes Go.RowKit
def readable (P:Program) (ts:List aD):Bool:=ts.all fun t=>P.readableRec t && decide (t<P.types.size)
theorem carry {H:Type} {enc:aD×Z->H} {P:Program} (hl:laidOutB P=aZ) {W W':U} (hb:aN W.heap.size W W') :
  ∀ (ts:List aD) (vs:List Z) (ds:List (DataW H)) (ps:List MemPlace),readable P ts=aZ->DataW.TrodAll enc P W 0 (fun _=>aZ) aZ ts vs ds ps->(∀ x∈ps,x.block<W.heap.size) ->
   DataW.TrodAll enc P W' 0 (fun b=>decide (b<W.heap.size)) aZ ts vs ds ps
 | [],vs,ds,ps,_,h,_=>by
  obtain⟨rfl,rfl,rfl⟩:=trodAll_nil h;exact trodAll_mk0
 | t::ts,vs,ds,ps,hr,h,hlt=>by
  obtain⟨v,vs',d,ds',p,q,rfl,rfl,rfl,h1,h2⟩:=trodAll_cons h;simp only [readable,List.all_cons,Bool.and_eq_true,decide_eq_true_eq] at hr;exact trodAll_cons_mk (Below.trod hl hr.1.1 hr.1.2 h1 hb (fun x hx=>hlt x (List.mem_append_left _ hx)))
   (carry hl hb ts vs' ds' q hr.2 h2 (fun x hx=>hlt x (List.mem_append_right _ hx)))
end Go.Proofs.Ytmklifheakemeaa.Ar
namespace Go.Proofs.Ytmklifheakemeaa.Pr
open Go.RowKit Go.ChangeShapes Go.WideShapes In
theorem Kh:Try.prog.cellsOf 40=2:=by kernel_rfl
theorem IC:Try.prog.cellsOf 23=1:=by kernel_rfl
end Go.Proofs.Ytmklifheakemeaa.Pr
namespace Go.Proofs.Ytmklifheakemeaa.At
open Go.RowKit Go.Sort Va In
def Ke (c:UInt8):Bool:=decide (97<=c.toNat) && decide (c.toNat<=122)
def xI (s:ByteArray):Bool:=s.data.toList.all Ke && (decide (1<=s.size) && decide (s.size<=12))
end Go.Proofs.Ytmklifheakemeaa.At
namespace Go.Proofs.Ytmklifheakemeaa.Pr
open Go.RowKit Go.Sort Pu Rw Va
end Go.Proofs.Ytmklifheakemeaa.Pr
namespace Go.Proofs.Ytmklifheakemeaa.Rl
open Go.RowKit Pu Rw Pr Va
end Go.Proofs.Ytmklifheakemeaa.Rl
namespace Go.Proofs.Ytmklifheakemeaa.Pr
open Go.RowKit Go.Sort Pu Rw
end Go.Proofs.Ytmklifheakemeaa.Pr
namespace Go.Proofs.Ytmklifheakemeaa.At
open Go.RowKit Va
abbrev V3:=Bool×Int×ByteArray
/-! ### the publications that numbers make -/
end Go.Proofs.Ytmklifheakemeaa.At
namespace Go.Proofs.Ytmklifheakemeaa.At
open Go.RowKit Go.Sort Va In
end Go.Proofs.Ytmklifheakemeaa.At
