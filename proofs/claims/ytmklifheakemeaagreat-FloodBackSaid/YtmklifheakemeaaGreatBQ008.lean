/-
  slices.Clone of rows. Conditions as told.
-/
import Derived.Test.YtmklifheakemeaaGreatBQ006
import Derived.Laws.Cover3
import Derived.Test.YtmklifheakemeaaGreatBQ007
import Derived.Deep.LoopGhost
set_option maxRecDepth 100000
set_option maxHeartbeats 64000000
open _root_.Bool renaming false->aP,true->bR
open _root_.Go renaming World->aB,Value->aM,Calls->aO,Addr->bU
open Go.Act renaming eval->aT,put->bf
open Go.Builtin renaming append_->aC,copy_->aG
open Go.Ending renaming returned->V
open Go.Extern.SlicesOverlaps renaming overlaps->aQ
open Go.Instr renaming sliceAt->Z
open Go.IntKind renaming i64->aA,wrap_i64->aR
open Go.Lib renaming hid->ah,run_overlaps_apart->aZ
open Go.Obj renaming cells->au
open Go.Op renaming bytesLess->aN
open Go.Operand renaming tmp->aF
open Go.Proofs.Tryz renaming prog->L,ntmps145->bF,ntmps180->bG,underlying24->bH,underlying32->bI,func145->bJ,func180->bL,underlying3->bM,ntmps140->bV,ntmps141->bW,ntmps142->bX,ntmps143->bY,ntmps123->bZ,ntmps32->cu,func140->cB,func141->cK,func142->cO,func143->cZ,func123->dh,func32->dn
open Go.RowKit renaming Below->aV
open Go.RowKit.Below renaming refl->aj,heap_setCell->aU
open Go.Value renaming slice->J,int->ay,pointer->aD,bool->aJ,string->bg,ownBlock->bS
open _root_.List renaming getElem?_toArray->aH,getElem?_cons_zero->aK,getElem?_cons_succ->aL,getElem?_eq_getElem->aW,take_of_length_le->aX,drop_of_length_le->aY,getElem?_map->bK,length_take->bN,length_map->bQ
open _root_.Nat renaming le_refl->ak,lt_or_ge->aS
open _root_.Option renaming none->O,some->U
open _root_.Or renaming inr->aI
namespace Go.Proofs.YtmklifheakemeaaGreat
namespace Av
open Go.RowKit Rw YtmklifheakemeaaGreat.Nm Pr Bk Rg
theorem Rz (a:Option bU) (n c:Nat) (w:aB):(binOp .eql 22 (J a n c) (J O 0 0)).run L w=.ok (aJ a.isNone) w:=by
 simp [go_sem,binOp,run_equal_slice_nil (P:=L) w 22 3 a n c Tryz.underlying22]
theorem zG (v:Sl) (l:List Int) (w:aB) (hv:Row EI w (dX v) l) (hl:l.length<=900) :
  aO L 32 #[dX v] w fun e w'=>(∃ v':Sl,e=V (dX v')/\Own EI w' w.heap.size (dX v') l)/\aV w.heap.size w w':=by
 obtain⟨vo,vn,vc⟩:=v;rcases hv with⟨rfl,hv⟩|⟨a,cap,hv,h1,h2,h3⟩
 ·obtain⟨rfl,rfl,rfl⟩:vo=O/\vn=0/\vc=0:=by simpa using hv
  clear hv hl;have q:∀ w',(binOp .eql 22 (J O 0 0) (J O 0 0)).run L w'=.ok (aJ bR) w':=fun w'=>Rz O 0 0 w';go_enter dn,cu;go_wp2;go_ret;exact⟨⟨(O,0,0),rfl,iM _ _⟩,aj _ _⟩
 ·obtain⟨rfl,rfl,rfl⟩:vo=U a/\vn=l.length/\vc=cap:=by simpa using hv
  have hx:Row EI w (J (U a) l.length vc) l:=aI ⟨a,vc,rfl,h1,h2,h3⟩;have n0:=gu w (au #[] 3);obtain⟨q0,w0,r0,o0,g0⟩:=jc Nm.JR w.heap.size (dO w #[] 3) (ak _) (hx.on n0) (by omega) 22;obtain⟨v1,v3,hv1⟩:=(Row.dH o0).len;obtain⟨n,hn⟩:∃ n,n=l.length:=⟨_,rfl⟩;have Q:=ah (show (∃ v':Sl,V q0=V (dX v')/\Own EI w0 w.heap.size (dX v') l)/\aV w.heap.size w w0 from ⟨⟨(v1,l.length,v3),by rw [hv1],by subst hv1; exact o0⟩,n0.trans (g0.mono n0.size)⟩);rw [<- hn] at r0 ⊢;clear hv h1 h2 h3 hx o0 g0 n0 hv1 hn hl;have q:∀ w',(binOp .eql 22 (J (U a) n vc) (J O 0 0)).run L w'=.ok (aJ aP) w':=fun w'=>Rz (U a) n vc w';have r0:(aC #[22,22] 22 #[J (U ⟨w.heap.size,0,O⟩) 0 0,J (U a) n vc]).run L (w.alloc (au #[] 3))=.ok q0 w0:=r0;go_enter dn,cu;go_wp2_with (first | (at_builtin; refine wpList_append_run rfl _ _ 22 rfl rfl rfl r0 ?_) | fail);go_ret;exact Q.out
theorem RA (a:Option bU) (n c:Nat) (w:aB):(binOp .eql 24 (J a n c) (J O 0 0)).run L w=.ok (aJ a.isNone) w:=by
 simp [go_sem,binOp,run_equal_slice_nil (P:=L) w 24 31 a n c bH]
theorem J6 (v:Sl) (l:List fD) (w:aB) (hv:Row EJ w (dX v) l) (hl:l.length<=900) :
  aO L 140 #[dX v] w fun e w'=>(∃ v':Sl,e=V (dX v')/\Own EJ w' w.heap.size (dX v') l)/\aV w.heap.size w w':=by
 obtain⟨vo,vn,vc⟩:=v;rcases hv with⟨rfl,hv⟩|⟨a,cap,hv,h1,h2,h3⟩
 ·obtain⟨rfl,rfl,rfl⟩:vo=O/\vn=0/\vc=0:=by simpa using hv
  clear hv hl;have q:∀ w',(binOp .eql 24 (J O 0 0) (J O 0 0)).run L w'=.ok (aJ bR) w':=fun w'=>RA O 0 0 w';go_enter cB,bV;go_wp2;go_ret;exact⟨⟨(O,0,0),rfl,iM _ _⟩,aj _ _⟩
 ·obtain⟨rfl,rfl,rfl⟩:vo=U a/\vn=l.length/\vc=cap:=by simpa using hv
  have hx:Row EJ w (J (U a) l.length vc) l:=aI ⟨a,vc,rfl,h1,h2,h3⟩;have n0:=gu w (au #[] 31);obtain⟨q0,w0,r0,o0,g0⟩:=jc Ca w.heap.size (dO w #[] 31) (ak _) (hx.on n0) (by omega) 24;obtain⟨v1,v3,hv1⟩:=(Row.dH o0).len;obtain⟨n,hn⟩:∃ n,n=l.length:=⟨_,rfl⟩;have Q:=ah (show (∃ v':Sl,V q0=V (dX v')/\Own EJ w0 w.heap.size (dX v') l)/\aV w.heap.size w w0 from ⟨⟨(v1,l.length,v3),by rw [hv1],by subst hv1; exact o0⟩,n0.trans (g0.mono n0.size)⟩);rw [<- hn] at r0 ⊢;clear hv h1 h2 h3 hx o0 g0 n0 hv1 hn hl;have q:∀ w',(binOp .eql 24 (J (U a) n vc) (J O 0 0)).run L w'=.ok (aJ aP) w':=fun w'=>RA (U a) n vc w';have r0:(aC #[24,24] 24 #[J (U ⟨w.heap.size,0,O⟩) 0 0,J (U a) n vc]).run L (w.alloc (au #[] 31))=.ok q0 w0:=r0;go_enter cB,bV;go_wp2_with (first | (at_builtin; refine wpList_append_run rfl _ _ 24 rfl rfl rfl r0 ?_) | fail);go_ret;exact Q.out
theorem RD (a:Option bU) (n c:Nat) (w:aB):(binOp .eql 23 (J a n c) (J O 0 0)).run L w=.ok (aJ a.isNone) w:=by
 simp [go_sem,binOp,run_equal_slice_nil (P:=L) w 23 74 a n c Tryz.underlying23]
theorem J7 (v:Sl) (l:List jI) (w:aB) (hv:Row ED w (dX v) l) (hl:l.length<=900) :
  aO L 141 #[dX v] w fun e w'=>(∃ v':Sl,e=V (dX v')/\Own ED w' w.heap.size (dX v') l)/\aV w.heap.size w w':=by
 obtain⟨vo,vn,vc⟩:=v;rcases hv with⟨rfl,hv⟩|⟨a,cap,hv,h1,h2,h3⟩
 ·obtain⟨rfl,rfl,rfl⟩:vo=O/\vn=0/\vc=0:=by simpa using hv
  clear hv hl;have q:∀ w',(binOp .eql 23 (J O 0 0) (J O 0 0)).run L w'=.ok (aJ bR) w':=fun w'=>RD O 0 0 w';go_enter cK,bW;go_wp2;go_ret;exact⟨⟨(O,0,0),rfl,iM _ _⟩,aj _ _⟩
 ·obtain⟨rfl,rfl,rfl⟩:vo=U a/\vn=l.length/\vc=cap:=by simpa using hv
  have hx:Row ED w (J (U a) l.length vc) l:=aI ⟨a,vc,rfl,h1,h2,h3⟩;have n0:=gu w (au #[] 74);obtain⟨q0,w0,r0,o0,g0⟩:=jc okD w.heap.size (dO w #[] 74) (ak _) (hx.on n0) (by omega) 23;obtain⟨v1,v3,hv1⟩:=(Row.dH o0).len;obtain⟨n,hn⟩:∃ n,n=l.length:=⟨_,rfl⟩;have Q:=ah (show (∃ v':Sl,V q0=V (dX v')/\Own ED w0 w.heap.size (dX v') l)/\aV w.heap.size w w0 from ⟨⟨(v1,l.length,v3),by rw [hv1],by subst hv1; exact o0⟩,n0.trans (g0.mono n0.size)⟩);rw [<- hn] at r0 ⊢;clear hv h1 h2 h3 hx o0 g0 n0 hv1 hn hl;have q:∀ w',(binOp .eql 23 (J (U a) n vc) (J O 0 0)).run L w'=.ok (aJ aP) w':=fun w'=>RD (U a) n vc w';have r0:(aC #[23,23] 23 #[J (U ⟨w.heap.size,0,O⟩) 0 0,J (U a) n vc]).run L (w.alloc (au #[] 74))=.ok q0 w0:=r0;go_enter cK,bW;go_wp2_with (first | (at_builtin; refine wpList_append_run rfl _ _ 23 rfl rfl rfl r0 ?_) | fail);go_ret;exact Q.out
theorem RF (a:Option bU) (n c:Nat) (w:aB):(binOp .eql 25 (J a n c) (J O 0 0)).run L w=.ok (aJ a.isNone) w:=by
 simp [go_sem,binOp,run_equal_slice_nil (P:=L) w 25 66 a n c Tryz.underlying25]
theorem J8 (v:Sl) (l:List iL) (w:aB) (hv:Row EN w (dX v) l) (hl:l.length<=900) :
  aO L 142 #[dX v] w fun e w'=>(∃ v':Sl,e=V (dX v')/\Own EN w' w.heap.size (dX v') l)/\aV w.heap.size w w':=by
 obtain⟨vo,vn,vc⟩:=v;rcases hv with⟨rfl,hv⟩|⟨a,cap,hv,h1,h2,h3⟩
 ·obtain⟨rfl,rfl,rfl⟩:vo=O/\vn=0/\vc=0:=by simpa using hv
  clear hv hl;have q:∀ w',(binOp .eql 25 (J O 0 0) (J O 0 0)).run L w'=.ok (aJ bR) w':=fun w'=>RF O 0 0 w';go_enter cO,bX;go_wp2;go_ret;exact⟨⟨(O,0,0),rfl,iM _ _⟩,aj _ _⟩
 ·obtain⟨rfl,rfl,rfl⟩:vo=U a/\vn=l.length/\vc=cap:=by simpa using hv
  have hx:Row EN w (J (U a) l.length vc) l:=aI ⟨a,vc,rfl,h1,h2,h3⟩;have n0:=gu w (au #[] 66);obtain⟨q0,w0,r0,o0,g0⟩:=jc nN w.heap.size (dO w #[] 66) (ak _) (hx.on n0) (by omega) 25;obtain⟨v1,v3,hv1⟩:=(Row.dH o0).len;obtain⟨n,hn⟩:∃ n,n=l.length:=⟨_,rfl⟩;have Q:=ah (show (∃ v':Sl,V q0=V (dX v')/\Own EN w0 w.heap.size (dX v') l)/\aV w.heap.size w w0 from ⟨⟨(v1,l.length,v3),by rw [hv1],by subst hv1; exact o0⟩,n0.trans (g0.mono n0.size)⟩);rw [<- hn] at r0 ⊢;clear hv h1 h2 h3 hx o0 g0 n0 hv1 hn hl;have q:∀ w',(binOp .eql 25 (J (U a) n vc) (J O 0 0)).run L w'=.ok (aJ aP) w':=fun w'=>RF (U a) n vc w';have r0:(aC #[25,25] 25 #[J (U ⟨w.heap.size,0,O⟩) 0 0,J (U a) n vc]).run L (w.alloc (au #[] 66))=.ok q0 w0:=r0;go_enter cO,bX;go_wp2_with (first | (at_builtin; refine wpList_append_run rfl _ _ 25 rfl rfl rfl r0 ?_) | fail);go_ret;exact Q.out
theorem RG (a:Option bU) (n c:Nat) (w:aB):(binOp .eql 26 (J a n c) (J O 0 0)).run L w=.ok (aJ a.isNone) w:=by
 simp [go_sem,binOp,run_equal_slice_nil (P:=L) w 26 34 a n c Tryz.underlying26]
theorem J9 (v:Sl) (l:List rz) (w:aB) (hv:Row EW w (dX v) l) (hl:l.length<=900) :
  aO L 143 #[dX v] w fun e w'=>(∃ v':Sl,e=V (dX v')/\Own EW w' w.heap.size (dX v') l)/\aV w.heap.size w w':=by
 obtain⟨vo,vn,vc⟩:=v;rcases hv with⟨rfl,hv⟩|⟨a,cap,hv,h1,h2,h3⟩
 ·obtain⟨rfl,rfl,rfl⟩:vo=O/\vn=0/\vc=0:=by simpa using hv
  clear hv hl;have q:∀ w',(binOp .eql 26 (J O 0 0) (J O 0 0)).run L w'=.ok (aJ bR) w':=fun w'=>RG O 0 0 w';go_enter cZ,bY;go_wp2;go_ret;exact⟨⟨(O,0,0),rfl,iM _ _⟩,aj _ _⟩
 ·obtain⟨rfl,rfl,rfl⟩:vo=U a/\vn=l.length/\vc=cap:=by simpa using hv
  have hx:Row EW w (J (U a) l.length vc) l:=aI ⟨a,vc,rfl,h1,h2,h3⟩;have n0:=gu w (au #[] 34);obtain⟨q0,w0,r0,o0,g0⟩:=jc okW w.heap.size (dO w #[] 34) (ak _) (hx.on n0) (by omega) 26;obtain⟨v1,v3,hv1⟩:=(Row.dH o0).len;obtain⟨n,hn⟩:∃ n,n=l.length:=⟨_,rfl⟩;have Q:=ah (show (∃ v':Sl,V q0=V (dX v')/\Own EW w0 w.heap.size (dX v') l)/\aV w.heap.size w w0 from ⟨⟨(v1,l.length,v3),by rw [hv1],by subst hv1; exact o0⟩,n0.trans (g0.mono n0.size)⟩);rw [<- hn] at r0 ⊢;clear hv h1 h2 h3 hx o0 g0 n0 hv1 hn hl;have q:∀ w',(binOp .eql 26 (J (U a) n vc) (J O 0 0)).run L w'=.ok (aJ aP) w':=fun w'=>RG (U a) n vc w';have r0:(aC #[26,26] 26 #[J (U ⟨w.heap.size,0,O⟩) 0 0,J (U a) n vc]).run L (w.alloc (au #[] 34))=.ok q0 w0:=r0;go_enter cZ,bY;go_wp2_with (first | (at_builtin; refine wpList_append_run rfl _ _ 26 rfl rfl rfl r0 ?_) | fail);go_ret;exact Q.out
theorem RI (a:Option bU) (n c:Nat) (w:aB):(binOp .eql 32 (J a n c) (J O 0 0)).run L w=.ok (aJ a.isNone) w:=by
 simp [go_sem,binOp,run_equal_slice_nil (P:=L) w 32 70 a n c bI]
theorem mI (v:Sl) (l:List C5) (w:aB) (hv:Row EC w (dX v) l) (hl:l.length<=900) :
  aO L 123 #[dX v] w fun e w'=>(∃ v':Sl,e=V (dX v')/\Own EC w' w.heap.size (dX v') l)/\aV w.heap.size w w':=by
 obtain⟨vo,vn,vc⟩:=v;rcases hv with⟨rfl,hv⟩|⟨a,cap,hv,h1,h2,h3⟩
 ·obtain⟨rfl,rfl,rfl⟩:vo=O/\vn=0/\vc=0:=by simpa using hv
  clear hv hl;have q:∀ w',(binOp .eql 32 (J O 0 0) (J O 0 0)).run L w'=.ok (aJ bR) w':=fun w'=>RI O 0 0 w';go_enter dh,bZ;go_wp2;go_ret;exact⟨⟨(O,0,0),rfl,iM _ _⟩,aj _ _⟩
 ·obtain⟨rfl,rfl,rfl⟩:vo=U a/\vn=l.length/\vc=cap:=by simpa using hv
  have hx:Row EC w (J (U a) l.length vc) l:=aI ⟨a,vc,rfl,h1,h2,h3⟩;have n0:=gu w (au #[] 70);obtain⟨q0,w0,r0,o0,g0⟩:=jc uq w.heap.size (dO w #[] 70) (ak _) (hx.on n0) (by omega) 32;obtain⟨v1,v3,hv1⟩:=(Row.dH o0).len;obtain⟨n,hn⟩:∃ n,n=l.length:=⟨_,rfl⟩;have Q:=ah (show (∃ v':Sl,V q0=V (dX v')/\Own EC w0 w.heap.size (dX v') l)/\aV w.heap.size w w0 from ⟨⟨(v1,l.length,v3),by rw [hv1],by subst hv1; exact o0⟩,n0.trans (g0.mono n0.size)⟩);rw [<- hn] at r0 ⊢;clear hv h1 h2 h3 hx o0 g0 n0 hv1 hn hl;have q:∀ w',(binOp .eql 32 (J (U a) n vc) (J O 0 0)).run L w'=.ok (aJ aP) w':=fun w'=>RI (U a) n vc w';have r0:(aC #[32,32] 32 #[J (U ⟨w.heap.size,0,O⟩) 0 0,J (U a) n vc]).run L (w.alloc (au #[] 70))=.ok q0 w0:=r0;go_enter dh,bZ;go_wp2_with (first | (at_builtin; refine wpList_append_run rfl _ _ 32 rfl rfl rfl r0 ?_) | fail);go_ret;exact Q.out
theorem RJ {W:aB} {b:Nat} {c:fD} (h:dJ W b (jO c).toArray 31):uY W (J (U ⟨b,0,O⟩) 1 1) [c] :=
 aI ⟨⟨b,0,O⟩,1,rfl,by simp,by decide,tK h (by simp [EJ])⟩
def zH (B:Nat) (l:List fD) (k:Nat) (c:fD) (vv:aM) (W:aB) (e:Ending) (w':aB):Prop:=∃ v',e=V v'/\rW w' B v' (l.take k++c::l.drop k)/\aV B W w'/\(∀ j,j<W.heap.size->U j≠vv.ownBlock->w'.heap[j]?=W.heap[j]?)
theorem Gs (B:Nat) (v:aM) (l:List fD) (c:fD) (b:Nat) (W:aB) (ho:rW W B v l) (hx:dJ W b (jO c).toArray 31) (hl:l.length<=900) (hB:B<=W.heap.size) :
  aO L 145 #[v,ay aA (l.length:Nat),J (U ⟨b,0,O⟩) 1 1] W (zH B l l.length c v W):=by
 obtain⟨v',w',hr,ho2,hg⟩:=gI Ca B ho (RJ hx) (by omega) (by simp) hB 24;have hr:(aC #[24,24] 24 #[v,J (U ⟨b,0,O⟩) 1 1]).run L W=.ok v' w':=hr;have Q:=ah (show zH B l l.length c v W (V v') w' from ⟨v',rfl,by rw [aX (ak _),aY (ak _)]; exact ho2,(aj B W).grown hg hB (fun j hj=>(ho.lt j hj).1),fun j hj hne=>hg.block j hj hne⟩);obtain⟨sx,hs,_⟩:=p9 Ca (Row.dH ho) l.length (ak _);have hs:∀ w,(Z 24 v (U (ay aA l.length)) O O).run L w=.ok sx w:=hs;obtain⟨ao,ac,rfl⟩:=(Row.dH ho).len;clear ho ho2 hg;generalize hn:l.length=n at *;clear hn;go_enter bJ,bF;go_wp2_with (first | (at_builtin; refine wpList_append_run rfl _ _ 24 rfl rfl rfl hr ?_) | fail);go_ret;exact Q.out
theorem RO (w:aB) (g b k la lb cb:Nat) (cur cs:Array aM) (hb:dJ w b cs 31) (hg:dJ w g cur 31) (hne:b≠g) (h0:0<cur.size):(callFunc 168 #[J (U ⟨b,0,O⟩) la 1,J (U ⟨g,k,O⟩) lb cb]).run L w=.ok (.value (aJ aP)) w:=by
 rw [run_callFunc_extern Tryz.func168 (by kernel_rfl) (by kernel_rfl) (by kernel_rfl) (e:=aQ #[24,24] #[4]) (by kernel_rfl),
  aZ w 24 4 31 bH 2 Tryz.sizeOf31 ⟨b,0,O⟩ ⟨g,k,O⟩ la 1 lb cb hne 31 31 cs.size cur.size hb.shape hg.shape (by omega) (hb.fr 0) (hb.fr _)]
 rfl
theorem Ci (B g n cap:Nat) (cur:Array aM) (l:List fD) (k:Nat) (c:fD) (b:Nat) (W:aB) (hn:n=l.length) (hBg:B<=g) (hg:dJ W g cur 31) (hcm:cap<=maxLen) (hsz:cur.size=cap * 2) (ht:cur.toList.take (n * 2)=flat EJ l) (hx:dJ W b (jO c).toArray 31) (hne:b≠g) (hk:k<n) (hroom:n+1<=cap) (hl:n<=900) :
  aO L 145 #[J (U ⟨g,0,O⟩) n cap,ay aA k,J (U ⟨b,0,O⟩) 1 1] W (zH B l k c (J (U ⟨g,0,O⟩) n cap) W):=by
 obtain⟨R1,R2,r1,r2,ow⟩:=tL (E:=EJ) (l:=l) (k:=k) (cap:=cap) (cur:=cur) (cs:=(jO c).toArray) (c:=c) Ca (by omega) (by omega) hsz (by rw [<- hn]; exact ht) g b hne;have hov:=fun lb cb=>RO W g b ((k+1) * 2) 1 lb cb cur (jO c).toArray hx hg hne (by omega);have s0:=gX (E:=EJ) Ca g k n cap (by omega) (by omega);have s1:=kE (E:=EJ) Ca ⟨g,0,O⟩ (n+1) n cap (by omega);have s2:=gX (E:=EJ) Ca g (k+1) (n+1) cap (by omega) (by omega);have s3:=gX (E:=EJ) Ca g k (n+1) cap (by omega) (by omega);have q1:=r1 W.drew 3 (n+1-(k+1)) (cap-(k+1)) (n+1-k) (cap-k) hg (by omega);have q2:=r2 (W.drew.setRow g R1) 3 (n+1-k) (cap-k) (dJ.set (show dJ W.drew g cur 31 from hg) R1) (dJ.other (show dJ W.drew b _ 31 from hx) hne R1) rfl (by omega);have Q:=ah (show zH B l k c (J (U ⟨g,0,O⟩) n cap) W (V (J (U ⟨g,0,O⟩) (n+1) cap)) ((W.drew.setRow g R1).setRow g R2) from ⟨_,rfl,by rw [hn]; exact ow _ B hBg hcm (dJ.set (dJ.set (show dJ W.drew g cur 31 from hg) R1) R2),below_setRow (below_setRow (aj B W).drew hBg _) hBg _,fun j hj hne=>(setRow_other _ g j _ (fun e=>hne (by rw [e]; rfl))).trans (setRow_other _ g j _ (fun e=>hne (by rw [e]; rfl)))⟩);clear r1 r2 ow hg ht hx hsz hBg hcm;change ∀ w,(Z 24 (J (U ⟨g,0,O⟩) n cap) (U (ay aA k)) O O).run L w=.ok (J (U ⟨g,k * 2,O⟩) (n-k) (cap-k)) w at s0;change ∀ w,(Z 24 (J (U ⟨g,0,O⟩) n cap) O (U (ay aA ((n:Int)+1))) O).run L w=.ok (J (U ⟨g,0,O⟩) (n+1) cap) w at s1;change ∀ w,(Z 24 (J (U ⟨g,0,O⟩) (n+1) cap) (U (ay aA ((k:Int)+1))) O O).run L w=.ok (J (U ⟨g,(k+1) * 2,O⟩) (n+1-(k+1)) (cap-(k+1))) w at s2;change ∀ w,(Z 24 (J (U ⟨g,0,O⟩) (n+1) cap) (U (ay aA k)) O O).run L w=.ok (J (U ⟨g,k * 2,O⟩) (n+1-k) (cap-k)) w at s3;have e1:((k:Int) == (n:Int))=aP:=by rw [beq_eq_false_iff_ne]; omega
 have e2:decide ((cap:Int)<(n:Int)+1)=aP:=by simp; omega
 change (aG #[24,24] 3 #[J (U ⟨g,(k+1) * 2,O⟩) (n+1-(k+1)) (cap-(k+1)),J (U ⟨g,k * 2,O⟩) (n+1-k) (cap-k)]).run L W.drew=.ok (ay aA ((l.length-k:Nat):Int)) (W.drew.setRow g R1) at q1;change (aG #[24,24] 3 #[J (U ⟨g,k * 2,O⟩) (n+1-k) (cap-k),J (U ⟨b,0,O⟩) 1 1]).run L (W.drew.setRow g R1)=.ok (ay aA 1) ((W.drew.setRow g R1).setRow g R2) at q2;clear hn;go_enter bJ,bF;go_wp2_with (first | (simp only [hov]) | fail);clear hov s0 s1 s2 s3;have hw1:IntKind.i64.wrap ((k:Int)+1)=(k:Int)+1:=by rw [aR]; omega
 have hb1:(0:Int)<=(k:Int)+1:=by omega
 have hb0:(k:Int)+1<=(n:Int)+1:=by omega
 have htn:((k:Int)+1).toNat=k+1:=by omega
 have hb2:¬ (cap=k+1):=by omega
 have hb3:(k:Int)<=(n:Int)+1:=by omega
 have hb4:¬ (cap=k):=by omega
 have h81:n+1-(k+1)=n-k:=by omega
 rw [h81] at q1;clear h81
 go_region_law (refine iX rfl (aF 73) (aF 76) 24 rfl (v:=J (U ⟨g,(k+1) * 2,O⟩) (n-k) (cap-(k+1))) (xv:=J (U ⟨g,k * 2,O⟩) (n+1-k) (cap-k)) (by simp [aT,bf]) (by simp [aT,bf]) q1 ?_)
 all_goals simp only [Exit.then]
 all_goals apply_assumption
 clear q1 hw1 hb1 hb0 htn hb2 hb3 hb4;have s3:=gX (E:=EJ) Ca g k (n+1) cap (by omega) (by omega);change ∀ w,(Z 24 (J (U ⟨g,0,O⟩) (n+1) cap) (U (ay aA k)) O O).run L w=.ok (J (U ⟨g,k * 2,O⟩) (n+1-k) (cap-k)) w at s3;go_wp2_with (first | (at_builtin; refine wpList_copy_run rfl _ _ 24 rfl rfl rfl q2 ?_) | fail);go_ret;exact Q.out
theorem Ew (B g n cap:Nat) (cur:Array aM) (l:List fD) (k:Nat) (c:fD) (b:Nat) (W:aB) (hn:n=l.length) (hg:dJ W g cur 31) (hcm:cap<=maxLen) (hnc:n<=cap) (ht:cur.toList.take (n * 2)=flat EJ l) (hx:dJ W b (jO c).toArray 31) (hk:k<n) (hroom:cap<n+1) (hl:n<=900) (hB:B<=W.heap.size) :
  aO L 145 #[J (U ⟨g,0,O⟩) n cap,ay aA k,J (U ⟨b,0,O⟩) 1 1] W (zH B l k c (J (U ⟨g,0,O⟩) n cap) W):=by
 have hgw:=hg.lt;have hbw:=hx.lt;obtain⟨G,R1,R2,R3,hG1,hG2,r1,r2,r3,ow⟩:=vS (E:=EJ) (l:=l) (k:=k) (cap:=cap) (cur:=cur) (cs:=(jO c).toArray) (c:=c) Ca 3 bM (by omega) (by omega) (by omega) (by omega) (by rw [<- hn]; exact ht) W g b hg hbw;unfold maxLen at hcm hG2;have s0:=gX (E:=EJ) Ca g k n cap (by omega) (by omega);have s1:=kE (E:=EJ) Ca ⟨g,0,O⟩ k n cap (by omega);have s2:=gX (E:=EJ) Ca W.heap.size k (n+1) G (by omega) (by omega);have s3:=gX (E:=EJ) Ca W.heap.size (k+1) (n+1) G (by omega) (by omega);have a1:=r1 24;have n1:=dO W.drew R1 31;have bl:W.drew.heap.size=W.heap.size:=rfl;rw [bl] at n1;have g1:dJ (W.drew.alloc (au R1 31)) g cur 31:=dJ.more (show dJ W.drew g cur 31 from hg) _;have x1:dJ (W.drew.alloc (au R1 31)) b (jO c).toArray 31:=dJ.more (show dJ W.drew b _ 31 from hx) _;have q2:=r2 (W.drew.alloc (au R1 31)) 3 (n+1-k) (G-k) n1 x1 rfl (by omega);have q3:=r3 ((W.drew.alloc (au R1 31)).setRow W.heap.size R2).drew 3 (n+1-(k+1)) (G-(k+1)) (n-k) (cap-k) (dJ.set n1 R2) (dJ.other g1 (by omega) R2) (by omega);have Q:=ah (show zH B l k c (J (U ⟨g,0,O⟩) n cap) W (V (J (U ⟨W.heap.size,0,O⟩) (n+1) G)) (((W.drew.alloc (au R1 31)).setRow W.heap.size R2).drew.setRow W.heap.size R3) from ⟨_,rfl,by rw [hn]; exact ow _ B hB (dJ.set (dJ.set n1 R2) R3),below_setRow (below_setRow ((aj B W).drew.alloc hB _) hB _).drew hB _,fun j hj _=>(setRow_other _ W.heap.size j _ (by omega)).trans ((setRow_other _ W.heap.size j _ (by omega)).trans (Array.getElem?_push_lt hj |>.trans (Array.getElem?_eq_getElem hj).symm))⟩);have l1:l.length+1=n+1:=by rw [hn]
 rw [l1,<- hn] at a1;clear r1 r2 r3 ow hg ht hx g1 x1 n1 bl l1;change ∀ w,(Z 24 (J (U ⟨g,0,O⟩) n cap) (U (ay aA k)) O O).run L w=.ok (J (U ⟨g,k * 2,O⟩) (n-k) (cap-k)) w at s0;change ∀ w,(Z 24 (J (U ⟨g,0,O⟩) n cap) O (U (ay aA k)) O).run L w=.ok (J (U ⟨g,0,O⟩) k cap) w at s1;change ∀ w,(Z 24 (J (U ⟨W.heap.size,0,O⟩) (n+1) G) (U (ay aA k)) O O).run L w=.ok (J (U ⟨W.heap.size,k * 2,O⟩) (n+1-k) (G-k)) w at s2;change ∀ w,(Z 24 (J (U ⟨W.heap.size,0,O⟩) (n+1) G) (U (ay aA ((k:Int)+1))) O O).run L w=.ok (J (U ⟨W.heap.size,(k+1) * 2,O⟩) (n+1-(k+1)) (G-(k+1))) w at s3;change (aC #[24,3] 24 #[J (U ⟨g,0,O⟩) k cap,ay aA ((n:Int)+1-k)]).run L W=.ok (J (U ⟨W.heap.size,0,O⟩) (n+1) G) (W.drew.alloc (au R1 31)) at a1;change (aG #[24,24] 3 #[J (U ⟨W.heap.size,k * 2,O⟩) (n+1-k) (G-k),J (U ⟨b,0,O⟩) 1 1]).run L (W.drew.alloc (au R1 31))=.ok (ay aA 1) ((W.drew.alloc (au R1 31)).setRow W.heap.size R2) at q2;change (aG #[24,24] 3 #[J (U ⟨W.heap.size,(k+1) * 2,O⟩) (n+1-(k+1)) (G-(k+1)),J (U ⟨g,k * 2,O⟩) (n-k) (cap-k)]).run L ((W.drew.alloc (au R1 31)).setRow W.heap.size R2).drew=.ok (ay aA ((l.length-k:Nat):Int)) (((W.drew.alloc (au R1 31)).setRow W.heap.size R2).drew.setRow W.heap.size R3) at q3;have e1:((k:Int) == (n:Int))=aP:=by rw [beq_eq_false_iff_ne]; omega
 have e2:decide ((cap:Int)<(n:Int)+1)=bR:=by simp; omega
 have hGn:n+1<=G:=by omega
 clear hn;generalize W.heap.size=N at *;generalize W.drew.alloc (au R1 31)=W1 at *;generalize W1.setRow N R2=W2 at *;go_enter bJ,bF;go_wp2_with (first | (at_builtin; refine je rfl _ _ 24 3 rfl rfl rfl a1 ?_) | (at_builtin; refine wpList_copy_run rfl _ _ 24 rfl rfl rfl q2 ?_) | fail);clear a1 q2 s0 s1 s2 s3;have hw1:IntKind.i64.wrap ((k:Int)+1)=(k:Int)+1:=by rw [aR]; omega
 have hb1:(0:Int)<=(k:Int)+1:=by omega
 have hb0:(k:Int)+1<=(n:Int)+1:=by omega
 have htn:((k:Int)+1).toNat=k+1:=by omega
 have hb2:¬ (G=k+1):=by omega
 have hb3:(k:Int)<=(n:Int):=by omega
 have hb4:¬ (cap=k):=by omega
 have h81:n+1-(k+1)=n-k:=by omega
 rw [h81] at q3;clear h81
 go_region_law (refine iX rfl (aF 50) (aF 53) 24 rfl (v:=J (U ⟨N,(k+1) * 2,O⟩) (n-k) (G-(k+1))) (xv:=J (U ⟨g,k * 2,O⟩) (n-k) (cap-k)) (by simp [aT,bf]) (by simp [aT,bf]) q3 ?_)
 all_goals simp only [Exit.then]
 all_goals apply_assumption
 go_wp2;go_ret;exact Q.out
theorem Gt (B:Nat) (v:aM) (l:List fD) (k:Nat) (c:fD) (b:Nat) (W:aB) (ho:rW W B v l) (hx:dJ W b (jO c).toArray 31) (hne:v.ownBlock≠U b) (hk:k<=l.length) (hl:l.length<=900) (hB:B<=W.heap.size) :
  aO L 145 #[v,ay aA k,J (U ⟨b,0,O⟩) 1 1] W (zH B l k c v W):=by
 rcases aS k l.length with h|h
 ·rcases gK ho with⟨_,h2⟩|⟨g,cap,cur,rfl,h1,h2,h3,h4,h5,h6⟩
  ·rw [h2] at h; simp at h
  ·rcases aS cap (l.length+1) with h7|h7
   ·exact Ew B g _ cap cur l k c b W rfl h2 h4 h3 h6 hx h h7 hl hB
   ·exact Ci B g _ cap cur l k c b W rfl h1 h2 h4 h5 h6 hx (fun e=>hne (by simp [bS,e])) h h7 hl
 ·obtain rfl:k=l.length:=by omega
  exact Gs B v l c b W ho hx hl hB
end Av
namespace Bk
open Go.RowKit Rw YtmklifheakemeaaGreat.Nm Pr
def Mj (B b2 _:Nat) (so:Option bU) (sn sc at_:Nat) (lo hiv:aM) (lt ld:List iL) (i:Nat) (v:aM) (x:aB):Prop :=
 match i with
 | 0=>∃ g,v=J (U ⟨g,0,O⟩) 0 0/\B<=g/\dJ x g #[] 66
 | 1=>v=aD (U ⟨b2,4,O⟩)
 | 2=>v=J so sn sc
 | 3=>v=ay aA (at_:Int)
 | 4=>v=lo
 | 5=>kQ x B v lt
 | 6=>v=aD (U ⟨b2,4,O⟩)
 | 7=>v=J so sn sc
 | 8=>v=ay aA (at_:Int)
 | 9=>v=ay aA ((at_:Int)+1)
 | 10=>v=hiv
 | 11=>kQ x B v (lt++ld)
 | 12=>v=aD (U ⟨b2,4,O⟩)
 | _=>True
noncomputable def Zi:Code:=((Tryz.f150.body.bind (eT 5)).getD .skip)
theorem RQ (B b2 b3:Nat) (so:Option bU) (sn sc at_:Nat) (lo hiv:aM) (lt ld:List iL) (i:Nat) (v:aM) (x x':aB) (h:Mj B b2 b3 so sn sc at_ lo hiv lt ld i v x) (hb:aV x.heap.size x x'):Mj B b2 b3 so sn sc at_ lo hiv lt ld i v x':=by
 by_cases hi:i<13
 ·rcases (by omega:i=0\/i=1\/i=2\/i=3\/i=4\/i=5\/i=6\/i=7\/i=8\/i=9\/i=10\/i=11\/i=12) with rfl|rfl|rfl|rfl|rfl|rfl|rfl|rfl|rfl|rfl|rfl|rfl|rfl
  ·obtain⟨g,h1,h2,h3⟩:=h;exact⟨g,h1,h2,h3.on hb⟩
  ·exact h
  ·exact h
  ·exact h
  ·exact h
  ·exact dI h hb
  ·exact h
  ·exact h
  ·exact h
  ·exact h
  ·exact h
  ·exact dI h hb
  ·exact h
 ·unfold Mj
  split <;> first | omega | trivial
theorem agR (Q:Exit->Act->aB->Prop) (W:aB) (b2 b3:Nat) (me:Int) (y1 y2 y3 y5:aM) (so:Option bU) (sn sc at_:Nat) (l:List iL) (u0 u1 u2 u3 u6 u7 u8 u9 u10 u12 u13 u14 u15 u16 u17 u18 u19 u20 u21 u22 u23 u24 u25 u26 u27 u28 u29 u30 u31 u32 u33 u34 u35 u36 u37 u38 u39 u40 u41 u42 u43 u44 u45 u46 u47 u48 u49 u50 u51 u52 u53 u54 u55 u56 u57 u58 u59 u60 u61 u62 u63 u64 u65 u66 u67 u68 u69 u70 u71 u72 u73 u74 u75 u76 u77 u78 u79 u80 u81 u82 u83 u84 u85 u86 u87 u88 u89 u90 u91 u92 u93 u94 u95 u96 u97 u98 u99 u100 u101 u102 u103:aM)
  (h2:dJ W b2 #[ay aA me,y1,y2,y3,J so sn sc,y5] 28) (hs:lF W (J so sn sc) l) (hat:at_+1<=l.length) (hlen:l.length<=900)
  (hQ:∀ (x:aB) (v39 v40 v41 v42 v43 v44 v45 v46 v47 v48 v49 v50 v51:aM),dJ x b2 #[ay aA me,y1,y2,y3,v50,y5] 28->kQ x W.heap.size v50 (l.take at_++l.drop (at_+1))->(∀ B,B<=b2->aV B W x)->(∀ c cs t,c≠b2->dJ W c cs t->dJ x c cs t)->(∀ k,k<W.heap.size->k≠b2->x.heap[k]?=W.heap[k]?)->Q .normal ⟨(u0::u1::u2::u3::aD (U ⟨b2,0,O⟩)::aD (U ⟨b3,0,O⟩)::u6::u7::u8::u9::u10::ay aA (at_:Int)::u12::u13::u14::u15::u16::u17::u18::u19::u20::u21::u22::u23::u24::u25::u26::u27::u28::u29::u30::u31::u32::u33::u34::u35::u36::u37::u38::v39::v40::v41::v42::v43::v44::v45::v46::v47::v48::v49::v50::v51::u52::u53::u54::u55::u56::u57::u58::u59::u60::u61::u62::u63::u64::u65::u66::u67::u68::u69::u70::u71::u72::u73::u74::u75::u76::u77::u78::u79::u80::u81::u82::u83::u84::u85::u86::u87::u88::u89::u90::u91::u92::u93::u94::u95::u96::u97::u98::u99::u100::u101::u102::u103::[]).toArray,[]⟩ x) :
  Code.wp L Zi Q ⟨(u0::u1::u2::u3::aD (U ⟨b2,0,O⟩)::aD (U ⟨b3,0,O⟩)::u6::u7::u8::u9::u10::ay aA (at_:Int)::u12::u13::u14::u15::u16::u17::u18::u19::u20::u21::u22::u23::u24::u25::u26::u27::u28::u29::u30::u31::u32::u33::u34::u35::u36::u37::u38::u39::u40::u41::u42::u43::u44::u45::u46::u47::u48::u49::u50::u51::u52::u53::u54::u55::u56::u57::u58::u59::u60::u61::u62::u63::u64::u65::u66::u67::u68::u69::u70::u71::u72::u73::u74::u75::u76::u77::u78::u79::u80::u81::u82::u83::u84::u85::u86::u87::u88::u89::u90::u91::u92::u93::u94::u95::u96::u97::u98::u99::u100::u101::u102::u103::[]).toArray,[]⟩ W:=by
 have HQ:=ah hQ;have H2:=ah h2;have AT1:=ah (show at_<=900 by omega);obtain⟨lo,Cj,vN⟩:=uX nN hs at_ (by omega);obtain⟨hiv,Ck,xg⟩:=p9 nN hs (at_+1) hat;have LT:=ah (show (l.take at_).length<=1000 by rw [bN]; omega);have RS:=ah (show (l.take at_).length<=900 by rw [bN]; omega);have LD:=ah (show (l.drop (at_+1)).length<=1000 by rw [List.length_drop]; omega);generalize l.take at_=lt at *;generalize l.drop (at_+1)=ld at *;have SL:=ah Cj;have SH:=ah (show ∀ w,(Z 25 (J so sn sc) (U (ay aA ((at_:Int)+1))) O O).run L w=.ok hiv w from Ck);have RL:=ah vN;have RH:=ah xg;clear hQ h2 hs Cj Ck vN xg hat hlen;have iT:=RQ W.heap.size b2 b3 so sn sc at_ lo hiv lt ld;unfold Zi
 conv=>arg 2; whnf
 have nd:∀ j,(j<39\/52<=j)->∀ i,i<13->(fun i=>39+i) i≠j:=by
  intro j hj i hi h;simp only at h;omega
 refine Rg.fT 14 13 (fun i=>39+i) (fun i=>if i=0 then 5 else if i=5 then 11 else 13) (Mj W.heap.size b2 b3 so sn sc at_ lo hiv lt ld) (by kernel_rfl) (by kernel_rfl) rfl (by decide) (fun i j _ _ h=>by have h2:39+i=39+j:=h; omega) (fun i hi=>by show 39+i<104; omega) ?_ (fun _=>Rg.jk 1 (by kernel_rfl)) (fun kk o h1 h2=>by omega) ?_
 ·intro i o hi ho a x D hnd hc hD hb seen K hK;clear HQ;rcases (by omega:i=0\/i=1\/i=2\/i=3\/i=4\/i=5\/i=6\/i=7\/i=8\/i=9\/i=10\/i=11\/i=12) with rfl|rfl|rfl|rfl|rfl|rfl|rfl|rfl|rfl|rfl|rfl|rfl|rfl
  ·cases ho;exact Rg.dD rfl rfl (Rg.jd a.eval _ 25 0 #[] rfl rfl (by simp [go_sem])) (hK (J (U ⟨x.heap.size,0,O⟩) 0 0) (x.alloc (au #[] 66)) ⟨x.heap.size,rfl,hb.size,dO x #[] 66⟩ ((aj _ _).alloc hb.size _) fun j u _ _ _ _ _ h=>iT j u _ _ h ((aj _ _).alloc (ak _) _))
  ·cases ho;have e4:a.eval (aF 4)=aD (U ⟨b2,0,O⟩):=seen.kp 4 _ (nd 4 (by omega)) rfl;exact Rg.dD rfl rfl (Rg.dU a.eval _ 28 (aF 4) 4 rfl (by rw [e4]; simp [go_sem])) (hK _ _ rfl (aj _ _) fun _ _ _ _ _ _ _ h=>h)
  ·cases ho;have e40:a.eval (aF 40)=aD (U ⟨b2,4,O⟩):=seen.at_ ⟨1,.data⟩ (by simp) rfl (aI (by decide));have y:=(H2.out.on hb).cell 4;simp only [aH,aK,aL] at y;exact Rg.dD rfl rfl (Rg.dW a.eval _ 25 (aF 40) rfl (by rw [e40]; simp [go_sem,y])) (hK _ _ rfl (aj _ _) fun _ _ _ _ _ _ _ h=>h)
  ·cases ho;have e11:a.eval (aF 11)=ay aA (at_:Int):=seen.kp 11 _ (nd 11 (by omega)) rfl;exact Rg.dD rfl rfl (Rg.gq a.eval _ (aF 11) rfl x) (hK _ _ e11 (aj _ _) fun _ _ _ _ _ _ _ h=>h)
  ·cases ho;have e41:a.eval (aF 41)=J so sn sc:=seen.at_ ⟨2,.data⟩ (by simp) rfl (aI (by decide));have e42:a.eval (aF 42)=ay aA (at_:Int):=seen.at_ ⟨3,.data⟩ (by simp) rfl (aI (by decide));exact Rg.dD rfl rfl (Rg.kG a.eval _ 25 (aF 41) O (U (aF 42)) O rfl (by show (Z 25 (a.eval (aF 41)) O (U (a.eval (aF 42))) O).run L x=.ok lo x; rw [e41,e42]; exact SL.out x)) (hK _ _ rfl (aj _ _) fun _ _ _ _ _ _ _ h=>h)
  ·cases ho;obtain⟨g,q0,hBg,hbx⟩:=seen.at_ ⟨0,.data⟩ (by simp) rfl (Or.inl rfl);have q0:a.eval (aF 39)=J (U ⟨g,0,O⟩) 0 0:=q0;have e43:a.eval (aF 43)=lo:=seen.at_ ⟨4,.data⟩ (by simp) rfl (aI (by decide));obtain⟨v',x',r,o',gr⟩:=jc nN W.heap.size hbx hBg (RL.out.on hb) LT.out 25;exact Rg.dD rfl rfl (Rg.fZ a.eval _ (aF 39) (aF 43) 25 rfl q0 e43 r) (hK v' x' o' (gr.mono hb.size) fun j u _ _ _ _ _ h=>iT j u _ _ h gr)
  ·cases ho;have e4:a.eval (aF 4)=aD (U ⟨b2,0,O⟩):=seen.kp 4 _ (nd 4 (by omega)) rfl;exact Rg.dD rfl rfl (Rg.dU a.eval _ 28 (aF 4) 4 rfl (by rw [e4]; simp [go_sem])) (hK _ _ rfl (aj _ _) fun _ _ _ _ _ _ _ h=>h)
  ·cases ho;have e45:a.eval (aF 45)=aD (U ⟨b2,4,O⟩):=seen.at_ ⟨6,.data⟩ (by simp) rfl (aI (by decide));have y:=(H2.out.on hb).cell 4;simp only [aH,aK,aL] at y;exact Rg.dD rfl rfl (Rg.dW a.eval _ 25 (aF 45) rfl (by rw [e45]; simp [go_sem,y])) (hK _ _ rfl (aj _ _) fun _ _ _ _ _ _ _ h=>h)
  ·cases ho;have e11:a.eval (aF 11)=ay aA (at_:Int):=seen.kp 11 _ (nd 11 (by omega)) rfl;exact Rg.dD rfl rfl (Rg.gq a.eval _ (aF 11) rfl x) (hK _ _ e11 (aj _ _) fun _ _ _ _ _ _ _ h=>h)
  ·cases ho;have e47:a.eval (aF 47)=ay aA (at_:Int):=seen.at_ ⟨8,.data⟩ (by simp) rfl (aI (by decide));exact Rg.dD rfl rfl (Rg.Rj a.eval _ .add 3 (aF 47) (.const (ay aA 1)) 3 rfl (by rw [e47]; exact add_one _ _ _ _ at_ AT1.out)) (hK _ _ rfl (aj _ _) fun _ _ _ _ _ _ _ h=>h)
  ·cases ho;have e46:a.eval (aF 46)=J so sn sc:=seen.at_ ⟨7,.data⟩ (by simp) rfl (aI (by decide));have e48:a.eval (aF 48)=ay aA ((at_:Int)+1):=seen.at_ ⟨9,.data⟩ (by simp) rfl (aI (by decide));exact Rg.dD rfl rfl (Rg.kG a.eval _ 25 (aF 46) (U (aF 48)) O O rfl (by show (Z 25 (a.eval (aF 46)) (U (a.eval (aF 48))) O O).run L x=.ok hiv x; rw [e46,e48]; exact SH.out x)) (hK _ _ rfl (aj _ _) fun _ _ _ _ _ _ _ h=>h)
  ·cases ho;have o44:kQ x W.heap.size (a.eval (aF 44)) (lt):=seen.at_ ⟨5,.data⟩ (by simp) rfl (Or.inl rfl);have e49:a.eval (aF 49)=hiv:=seen.at_ ⟨10,.data⟩ (by simp) rfl (aI (by decide));have ox:lF x (a.eval (aF 49)) ld:=by rw [e49]; exact RH.out.on hb
   obtain⟨v',x',r,o',gr⟩:=gI nN W.heap.size o44 ox (by have:=RS.out; omega) LD.out hb.size 25;exact Rg.dD rfl rfl (Rg.fZ a.eval _ (aF 44) (aF 49) 25 rfl rfl rfl r) (hK v' x' o' ((aj _ x).grown gr hb.size fun j hj=>(o44.lt j hj).1) fun j u hj dj nl nx ni h=>by
    rcases (by omega:j=0\/j=1\/j=2\/j=3\/j=4\/j=5\/j=6\/j=7\/j=8\/j=9\/j=10\/j=11\/j=12) with rfl|rfl|rfl|rfl|rfl|rfl|rfl|rfl|rfl|rfl|rfl|rfl|rfl
    ·exact absurd rfl (fun _:(0:Nat)=0=>nl (hD ⟨5,.data⟩ (by simp) rfl))
    ·exact h
    ·exact h
    ·exact h
    ·exact h
    ·exact absurd rfl (fun _:(0:Nat)=0=>nx rfl)
    ·exact h
    ·exact h
    ·exact h
    ·exact h
    ·exact h
    ·exact absurd rfl (fun _:(0:Nat)=0=>ni rfl)
    ·exact h)
  ·cases ho;have e4:a.eval (aF 4)=aD (U ⟨b2,0,O⟩):=seen.kp 4 _ (nd 4 (by omega)) rfl;exact Rg.dD rfl rfl (Rg.dU a.eval _ 28 (aF 4) 4 rfl (by rw [e4]; simp [go_sem])) (hK _ _ rfl (aj _ _) fun _ _ _ _ _ _ _ h=>h)
 ·intro a w' df sz kp ⟨vs,hv⟩ hb;have gr:a.tmps[50]?=U (vs 11):=(hv 11 (by omega)).1;have gp:a.tmps[51]?=U (aD (U ⟨b2,4,O⟩)):=by
   have h:vs 12=aD (U ⟨b2,4,O⟩):=(hv 12 (by omega)).2 (by decide);rw [<- h];exact (hv 12 (by omega)).1
  have oR:kQ w' W.heap.size (vs 11) (lt++ld):=(hv 11 (by omega)).2 (by decide);generalize vs 11=xR at *;obtain⟨ca,cp,eR⟩:=(Row.dH oR).len;have hbx:=H2.out.on hb;have hblt:=H2.out.lt;have c5:=hbx.cell 4;have f5:=hbx.fr 4;simp only [aH,aK,aL] at c5;have hb1:=dR (k:=4) hbx xR;show Rg.fG _ _ _ 1 13 a w';simp only [Rg.fG];refine Rg.fQ 25 (aF 51) (aF 50) rfl rfl rfl rfl (Rg.dM gp) (Rg.dM gr) (w':=w'.setCell ⟨b2,4,O⟩ xR) (by rw [eR]; simp [go_sem,c5,f5]) ?_;have rA:∀ j,(j<39\/52<=j)->a.tmps[j]?=(u0::u1::u2::u3::aD (U ⟨b2,0,O⟩)::aD (U ⟨b3,0,O⟩)::u6::u7::u8::u9::u10::ay aA (at_:Int)::u12::u13::u14::u15::u16::u17::u18::u19::u20::u21::u22::u23::u24::u25::u26::u27::u28::u29::u30::u31::u32::u33::u34::u35::u36::u37::u38::u39::u40::u41::u42::u43::u44::u45::u46::u47::u48::u49::u50::u51::u52::u53::u54::u55::u56::u57::u58::u59::u60::u61::u62::u63::u64::u65::u66::u67::u68::u69::u70::u71::u72::u73::u74::u75::u76::u77::u78::u79::u80::u81::u82::u83::u84::u85::u86::u87::u88::u89::u90::u91::u92::u93::u94::u95::u96::u97::u98::u99::u100::u101::u102::u103::[])[j]?:=fun j hj=>(kp j (nd j hj)).trans aH;obtain⟨mid,hmid,rfl⟩:=Rg.gG 39 13 df sz (by simp) rA
  match mid,hmid with
  | [v39,v40,v41,v42,v43,v44,v45,v46,v47,v48,v49,v50,v51],_ =>
   have e1:U v50=U xR:=gr;obtain rfl:=Option.some.inj e1;refine HQ.out _ v39 v40 v41 v42 v43 v44 v45 v46 v47 v48 v49 v50 v51 ?_ ?_ ?_ ?_ ?_
   ·simpa using hb1
   ·exact eO oR b2 4 _ hblt
   ·exact fun B hB=>(hb.mono (Nat.le_of_lt (Nat.lt_of_le_of_lt hB hblt))).setCell hB _
   ·intro c cs t hc hbc;exact (aU _ _ _ _ hc).trans (hbc.on hb)
   ·intro k hk hne;exact (aU _ _ _ _ hne).trans (hb.block k hk)
end Bk
namespace Pr
open Go.RowKit Go.Sort Pu Rw Va
theorem Ka (a b:ByteArray) (w:aB):aO L 194 #[bg a,bg b] w fun e w'=>e=V (ay aA (Eu a b))/\w'=w:=by
 go_enter Tryz.func194,Tryz.ntmps194;go_wp2_with fail;rw [run_callFunc_extern Tryz.func198 (by kernel_rfl) (by kernel_rfl) (by kernel_rfl) (e:=Extern.BytealgCompare.compare) (by kernel_rfl),Lib.run_compareString];simp only [Result.andThen];rw [Oper.upon_value];go_wp2;go_ret;exact⟨rfl,rfl⟩
theorem o9 (a b:ByteArray) (w:aB):aO L 186 #[bg a,bg b] w fun e w'=>e=V (ay aA (Eu a b))/\w'=w:=by
 go_enter Tryz.func186,Tryz.ntmps186;go_wp2_with fail;refine (Ka a b w).mono ?_;rintro e w' ⟨rfl,rfl⟩;go_wp2;go_ret;exact⟨rfl,rfl⟩
theorem Kc (c d:C5) (w:aB):aO L 179 #[cv c,cv d] w fun e w'=>e=V (ay aA (Eu c.1 d.1))/\Below w.heap.size w w':=by
 go_enter Tryz.func179,Tryz.ntmps179;go_wp2_with fail;refine (o9 c.1 d.1 _).mono ?_;rintro e w' ⟨rfl,rfl⟩;go_wp2;go_ret;exact⟨rfl,((aj w.heap.size w).alloc (ak _) _).alloc (by simp) _⟩
theorem CZ (c d:C5) (r:Int) (hr:Eu c.1 d.1=r) (w:aB) (k:Nat) (os:Array Obj) :
  aO L 179 #[cv c,cv d] (grow (redrawn w k) os) fun e w''=>e=V (ay aA r)/\∃ p:Regrown,w''=grow (redrawn w p.d) p.os:=by
 subst hr;exact Calls.regrown_of (Kc c d _)
theorem mJ {W W1:aB} {v:aM} {l:List C5} {ao:Option bU} {n c k:Nat} {x:C5} (h:fH W v l) (hv:v=J ao n c) (hn:l.length=n) (hk:l[k]?=U x) (hb:Below W.heap.size W W1) :
  ∃ p:bU,(∀ w,(Instr.indexAt 32 (J ao n c) (ay aA k)).run L w=.ok (aD (U p)) w) /\
   (∀ d os,(grow (redrawn W1 d) os).cell? p=U (bg x.1))/\(∀ d os,(grow (redrawn W1 d) os).cell? ⟨p.block,p.off+1,O⟩=U (ay aA x.2.1))/\(∀ d os,(grow (redrawn W1 d) os).cell? ⟨p.block,p.off+2,O⟩=U (ay aA x.2.2.1))/\(∀ d os,(grow (redrawn W1 d) os).cell? ⟨p.block,p.off+3,O⟩=U (ay aA x.2.2.2.1))/\(∀ d os,(grow (redrawn W1 d) os).cell? ⟨p.block,p.off+4,O⟩=U (bg x.2.2.2.2)):=by
 obtain⟨p,h1,h2⟩:=Xv h hv hn hk;obtain⟨c0,c1,c2,c3,c4⟩:=h2 _ hb;exact⟨p,h1,cell_regrown c0,cell_regrown c1,cell_regrown c2,cell_regrown c3,cell_regrown c4⟩
theorem nk {W:aB} {b:Nat} {c:C5} (h:dJ W b (cells5 c).toArray 70):(∀ d os,(grow (redrawn W d) os).cell? ⟨b,0,O⟩=U (bg c.1))/\(∀ d os,(grow (redrawn W d) os).cell? ⟨b,1,O⟩=U (ay aA c.2.1))/\(∀ d os,(grow (redrawn W d) os).cell? ⟨b,2,O⟩=U (ay aA c.2.2.1))/\(∀ d os,(grow (redrawn W d) os).cell? ⟨b,3,O⟩=U (ay aA c.2.2.2.1))/\(∀ d os,(grow (redrawn W d) os).cell? ⟨b,4,O⟩=U (bg c.2.2.2.2)) :=
 ⟨cell_regrown (h.cell 0),cell_regrown (h.cell 1),cell_regrown (h.cell 2),cell_regrown (h.cell 3),cell_regrown (h.cell 4)⟩
theorem RV (v:aM) (l:List Cn) (c:Cn) (w:aB) (hv:fH w v (l.map r5)) (hr:jN l) (hl:l.length<=100) :
  aO L 178 #[v,cv (r5 c),.func (.func 179) #[] #[]] w fun e w'=>e=V (.tuple #[ay aA (jV l c.1),aJ (ko l c.1)])/\Below w.heap.size w w':=by
 have HL:=ah hv;have HR:=ah hr;have LN:=ah (show (l.map r5).length=l.length from bQ ..);have BX:=ah (dO w (cells5 (r5 c)).toArray 70);have B1:=ah ((aj w.heap.size w).alloc (ak _) (au (cells5 (r5 c)).toArray 70));obtain⟨ao,ac,rfl⟩:=hv.len;rw [bQ] at HL ⊢;obtain⟨n,hn⟩:∃ n,n=l.length:=⟨_,rfl⟩;rw [<- hn] at HL hl ⊢;have HN:=ah hn;obtain⟨cnt,hc⟩:∃ k,k=jV l c.1:=⟨_,rfl⟩;obtain⟨th,ht⟩:∃ k,k=ko l c.1:=⟨_,rfl⟩;rw [<- hc,<- ht];have HC:=ah hc;have HT:=ah ht;clear hv hr hn hc ht;go_enter Tryz.func178,Tryz.ntmps178;go_wp2;change Code.wp _ _ _ _ (w.alloc (au (cells5 (r5 c)).toArray 70));generalize w.alloc (au (cells5 (r5 c)).toArray 70)=w1 at *
 go_loopg [9,10] n (fun kx s9 s10 wr=>∃ lo hi:Nat,s9=ay aA lo/\s10=ay aA hi/\lo<=hi/\hi<=n/\hi-lo<=kx/\Below w.heap.size w wr/\dJ wr w.heap.size (cells5 (r5 c)).toArray 70 /\
  (∀ (t:Nat) (y:Cn),t<lo->l[t]?=U y->aN y.1.toList c.1.toList=bR)/\(∀ (t:Nat) (y:Cn),hi<=t->l[t]?=U y->aN y.1.toList c.1.toList=aP))
 case atStart=>exact⟨0,n,rfl,rfl,Nat.zero_le _,ak _,by omega,B1.out,BX.out,fun t y h=>by omega,fun t y h1 h2=>by have:=(List.getElem?_eq_some_iff.1 h2).1; have:=HN.out; omega⟩
 case round =>
  clear B1 BX;obtain⟨lo,hi,rfl,rfl,hlh,hin,hg,hb,hx,ha,hz⟩:=hrel;have B:=ah hb;have X:=ah hx;have AL:=ah ha;have ZL:=ah hz;clear hb hx ha hz;by_cases hlt:lo<hi
  ·obtain⟨y,hy⟩:∃ y,l[(lo+hi) / 2]?=U y:=⟨_,aW (by have:=HN.out; omega)⟩;obtain⟨p,ix,p0,p1,p2,p3,p4⟩:=mJ (x:=r5 y) HL.out rfl (LN.out.trans HN.out.symm) (by rw [bK,hy]; rfl) B.out;obtain⟨b0,b1,b2,b3,b4⟩:=nk X.out;obtain⟨r,hr⟩:∃ r,Eu y.1 c.1=r:=⟨_,rfl⟩;have C:=CZ (r5 y) (r5 c) r hr wr;have LE:=ah (show decide (r<0)=aN y.1.toList c.1.toList by rw [<- hr]; exact Pj _ _);have Y:=ah hy;simp only [r5] at p0 p1 p2 p3 p4 b0 b1 b2 b3 b4 C ⊢;clear hy hr;have e23:((lo:Int)+(hi:Int)) / 2=(((lo+hi) / 2:Nat):Int):=by omega
   generalize hm:(lo+hi) / 2=m at *;have BN:=ah (fun dq osq=>B.out.trans ((below_regrown wr dq osq).mono B.out.size));have XN:=ah (fun dq osq=>X.out.on (below_regrown wr dq osq));by_cases hneg:r<0
   ·have d0:decide (r<0)=bR:=by simpa using hneg
    have LT:=ah (show aN y.1.toList c.1.toList=bR by rw [<- LE.out]; exact d0);go_wp2;refine wp_region_quiet_below (by kernel_rfl) (by kernel_rfl) ?_
    repeat (go_big_quiet_step (first | (with_reducible exact C _ _) | exact sG _ _))
    refine wpQuiet_nil ?_;intro _ hw';obtain⟨⟨dq,osq⟩,hw''⟩:=hw';subst hw'';clear ix p0 p1 p2 p3 p4 b0 b1 b2 b3 b4 C;go_wp2
    go_roundg (hi-(m+1))
    case measure=>omega
    case rel=>exact⟨m+1,hi,by go_num,rfl,by omega,hin,ak _,BN.out _ _,XN.out _ _,fun t z h1 h2=>by
     rcases aS t m with h3|h3
     ·exact CQ HR.out (by omega) h2 Y.out LT.out
     ·obtain rfl:t=m:=by omega
      rw [Y.out] at h2;rw [<- Option.some.inj h2];exact LT.out,ZL.out⟩
   ·have d0:decide (r<0)=aP:=by simpa using hneg
    have LT:=ah (show aN y.1.toList c.1.toList=aP by rw [<- LE.out]; exact d0);go_wp2;refine wp_region_quiet_below (by kernel_rfl) (by kernel_rfl) ?_
    repeat (go_big_quiet_step (first | (with_reducible exact C _ _) | exact sG _ _))
    refine wpQuiet_nil ?_;intro _ hw';obtain⟨⟨dq,osq⟩,hw''⟩:=hw';subst hw'';clear ix p0 p1 p2 p3 p4 b0 b1 b2 b3 b4 C;go_wp2
    go_roundg (m-lo)
    case measure=>omega
    case rel=>exact⟨lo,m,rfl,rfl,by omega,by omega,ak _,BN.out _ _,XN.out _ _,AL.out,fun t z h1 h2=>by
     cases h:aN z.1.toList c.1.toList
     ·rfl
     ·have:=CQ HR.out h1 Y.out h2 h;rw [LT.out] at this;cases this⟩
  ·obtain rfl:hi=lo:=by omega
   have E:=ah (Me l c.1 hi (by have:=HN.out; omega) AL.out (fun z hz=>ZL.out hi z (ak _) hz));by_cases hn:hi<n
   ·obtain⟨y,hy⟩:∃ y,l[hi]?=U y:=⟨_,aW (by have:=HN.out; omega)⟩;obtain⟨p,ix,p0,p1,p2,p3,p4⟩:=mJ (x:=r5 y) HL.out rfl (LN.out.trans HN.out.symm) (by rw [bK,hy]; rfl) B.out;obtain⟨b0,b1,b2,b3,b4⟩:=nk X.out;obtain⟨r,hr⟩:∃ r,Eu y.1 c.1=r:=⟨_,rfl⟩;have C:=CZ (r5 y) (r5 c) r hr wr;have TH:=ah (show th=(r == 0) by
     rw [HT.out,ko,E.out,hy,Bool.eq_iff_iff,beq_iff_eq,<- hr,Pk,decide_eq_true_eq])
    simp only [r5] at p0 p1 p2 p3 p4 b0 b1 b2 b3 b4 C ⊢;have BN:=ah (fun dq osq=>B.out.trans ((below_regrown wr dq osq).mono B.out.size));have CE:=ah (show cnt=hi by rw [HC.out,E.out]);clear hy hr hlt;have g4:decide ((hi:Int)<(n:Int))=bR:=by simp; omega
    go_wp2;refine wp_region_quiet_below (by kernel_rfl) (by kernel_rfl) ?_
    repeat (go_big_quiet_step (first | (with_reducible exact C _ _) | exact sG _ _))
    refine wpQuiet_nil ?_;intro _ hw';obtain⟨⟨dq,osq⟩,hw''⟩:=hw';subst hw'';clear ix p0 p1 p2 p3 p4 b0 b1 b2 b3 b4 C;go_wp2
    go_ret2
    exact⟨by rw [TH.out,CE.out]; rfl,BN.out _ _⟩
   ·have TH:=ah (show th=aP by
     rw [HT.out,ko,E.out,List.getElem?_eq_none (by have:=HN.out; omega)])
    have CE:=ah (show cnt=hi by rw [HC.out,E.out]);have BN:=ah (fun dq osq=>B.out.trans ((below_regrown wr dq osq).mono B.out.size));have g4:decide ((hi:Int)<(n:Int))=aP:=by simp; omega
    clear hlt;go_wp2;refine wp_region_quiet_below (by kernel_rfl) (by kernel_rfl) ?_
    repeat (go_big_quiet_step (first | (with_reducible exact C _ _) | exact sG _ _))
    refine wpQuiet_nil ?_;intro _ hw';obtain⟨⟨dq,osq⟩,hw''⟩:=hw';subst hw'';go_wp2
    go_ret2
    exact⟨by rw [TH.out,CE.out]; rfl,BN.out _ _⟩
theorem XM {W:aB} {b:Nat} {c:C5} (h:dJ W b (cells5 c).toArray 70):fH W (J (U ⟨b,0,O⟩) 1 1) [c] :=
 aI ⟨⟨b,0,O⟩,1,rfl,by simp,by decide,tK h (by simp [EC])⟩
def Ke (B:Nat) (l:List C5) (k:Nat) (c:C5) (W:aB) (e:Ending) (w':aB):Prop:=∃ v',e=V v'/\gP w' B v' (l.take k++c::l.drop k)/\Below B W w'
theorem Kg (B:Nat) (v:aM) (l:List C5) (c:C5) (b:Nat) (W:aB) (ho:gP W B v l) (hx:dJ W b (cells5 c).toArray 70) (hl:l.length<=100) (hB:B<=W.heap.size) :
  aO L 180 #[v,ay aA (l.length:Nat),J (U ⟨b,0,O⟩) 1 1] W (Ke B l l.length c W):=by
 obtain⟨v',w',hr,ho2,hg⟩:=Ce B ho (XM hx) (by omega) (by simp) hB;have Q:=ah (show Ke B l l.length c W (V v') w' from ⟨v',rfl,by rw [aX (ak _),aY (ak _)]; exact ho2,(aj B W).grown hg hB (fun j hj=>(ho.lt j hj).1)⟩);obtain⟨sx,hs,_⟩:=hiC (Row.dH ho) l.length (ak _);obtain⟨ao,ac,rfl⟩:=(Row.dH ho).len;clear ho ho2 hg;generalize hn:l.length=n at *;clear hn;go_enter bL,bG;go_wp2_with (first | (at_builtin; refine wpList_append_run rfl _ _ 32 rfl rfl rfl hr ?_) | fail);go_ret;exact Q.out
theorem XO (w:aB) (g b k la lb cb:Nat) (cur cs:Array aM) (hb:dJ w b cs 70) (hg:dJ w g cur 70) (hne:b≠g) (h0:0<cur.size):(callFunc 187 #[J (U ⟨b,0,O⟩) la 1,J (U ⟨g,k,O⟩) lb cb]).run L w=.ok (.value (aJ aP)) w:=by
 rw [run_callFunc_extern Tryz.func187 (by kernel_rfl) (by kernel_rfl) (by kernel_rfl) (e:=aQ #[32,32] #[4]) (by kernel_rfl),
  aZ w 32 4 70 bI 5 Tryz.sizeOf70 ⟨b,0,O⟩ ⟨g,k,O⟩ la 1 lb cb hne 70 70 cs.size cur.size hb.shape hg.shape (by omega) (hb.fr 0) (hb.fr _)]
 rfl
theorem Ey (B g n cap:Nat) (cur:Array aM) (l:List C5) (k:Nat) (c:C5) (b:Nat) (W:aB) (hn:n=l.length) (hBg:B<=g) (hg:dJ W g cur 70) (hcm:cap<=maxLen) (hsz:cur.size=cap * 5) (ht:cur.toList.take (n * 5)=flat EC l) (hx:dJ W b (cells5 c).toArray 70) (hne:b≠g) (hk:k<n) (hroom:n+1<=cap) (hl:n<=100) :
  aO L 180 #[J (U ⟨g,0,O⟩) n cap,ay aA k,J (U ⟨b,0,O⟩) 1 1] W (Ke B l k c W):=by
 obtain⟨R1,R2,r1,r2,ow⟩:=tL (E:=EC) (l:=l) (k:=k) (cap:=cap) (cur:=cur) (cs:=(cells5 c).toArray) (c:=c) uq (by omega) (by omega) hsz (by rw [<- hn]; exact ht) g b hne;have hov:=fun lb cb=>XO W g b ((k+1) * 5) 1 lb cb cur (cells5 c).toArray hx hg hne (by omega);have s0:=gX (E:=EC) uq g k n cap (by omega) (by omega);have s1:=kE (E:=EC) uq ⟨g,0,O⟩ (n+1) n cap (by omega);have s2:=gX (E:=EC) uq g (k+1) (n+1) cap (by omega) (by omega);have s3:=gX (E:=EC) uq g k (n+1) cap (by omega) (by omega);have q1:=r1 W.drew 3 (n+1-(k+1)) (cap-(k+1)) (n+1-k) (cap-k) hg (by omega);have q2:=r2 (W.drew.setRow g R1) 3 (n+1-k) (cap-k) (dJ.set (show dJ W.drew g cur 70 from hg) R1) (dJ.other (show dJ W.drew b _ 70 from hx) hne R1) rfl (by omega);have Q:=ah (show Ke B l k c W (V (J (U ⟨g,0,O⟩) (n+1) cap)) ((W.drew.setRow g R1).setRow g R2) from ⟨_,rfl,by rw [hn]; exact ow _ B hBg hcm (dJ.set (dJ.set (show dJ W.drew g cur 70 from hg) R1) R2),below_setRow (below_setRow (aj B W).drew hBg _) hBg _⟩);clear r1 r2 ow hg ht hx hsz hBg hcm;change ∀ w,(Z 32 (J (U ⟨g,0,O⟩) n cap) (U (ay aA k)) O O).run L w=.ok (J (U ⟨g,k * 5,O⟩) (n-k) (cap-k)) w at s0;change ∀ w,(Z 32 (J (U ⟨g,0,O⟩) n cap) O (U (ay aA ((n:Int)+1))) O).run L w=.ok (J (U ⟨g,0,O⟩) (n+1) cap) w at s1;change ∀ w,(Z 32 (J (U ⟨g,0,O⟩) (n+1) cap) (U (ay aA ((k:Int)+1))) O O).run L w=.ok (J (U ⟨g,(k+1) * 5,O⟩) (n+1-(k+1)) (cap-(k+1))) w at s2;change ∀ w,(Z 32 (J (U ⟨g,0,O⟩) (n+1) cap) (U (ay aA k)) O O).run L w=.ok (J (U ⟨g,k * 5,O⟩) (n+1-k) (cap-k)) w at s3;have e1:((k:Int) == (n:Int))=aP:=by rw [beq_eq_false_iff_ne]; omega
 have e2:decide ((cap:Int)<(n:Int)+1)=aP:=by simp; omega
 change (aG #[32,32] 3 #[J (U ⟨g,(k+1) * 5,O⟩) (n+1-(k+1)) (cap-(k+1)),J (U ⟨g,k * 5,O⟩) (n+1-k) (cap-k)]).run L W.drew=.ok (ay aA ((l.length-k:Nat):Int)) (W.drew.setRow g R1) at q1;change (aG #[32,32] 3 #[J (U ⟨g,k * 5,O⟩) (n+1-k) (cap-k),J (U ⟨b,0,O⟩) 1 1]).run L (W.drew.setRow g R1)=.ok (ay aA 1) ((W.drew.setRow g R1).setRow g R2) at q2;clear hn;go_enter bL,bG;go_wp2_with (first | (simp only [hov]) | fail);clear hov s0 s1 s2 s3;have hw1:IntKind.i64.wrap ((k:Int)+1)=(k:Int)+1:=by rw [aR]; omega
 have hb1:(0:Int)<=(k:Int)+1:=by omega
 have hb0:(k:Int)+1<=(n:Int)+1:=by omega
 have htn:((k:Int)+1).toNat=k+1:=by omega
 have hb2:¬ (cap=k+1):=by omega
 have hb3:(k:Int)<=(n:Int)+1:=by omega
 have hb4:¬ (cap=k):=by omega
 have h81:n+1-(k+1)=n-k:=by omega
 rw [h81] at q1;clear h81
 go_region_law (refine iX rfl (aF 73) (aF 76) 32 rfl (v:=J (U ⟨g,(k+1) * 5,O⟩) (n-k) (cap-(k+1))) (xv:=J (U ⟨g,k * 5,O⟩) (n+1-k) (cap-k)) (by simp [aT,bf]) (by simp [aT,bf]) q1 ?_)
 all_goals simp only [Exit.then]
 all_goals apply_assumption
 clear q1 hw1 hb1 hb0 htn hb2 hb3 hb4;have s3:=gX (E:=EC) uq g k (n+1) cap (by omega) (by omega);change ∀ w,(Z 32 (J (U ⟨g,0,O⟩) (n+1) cap) (U (ay aA k)) O O).run L w=.ok (J (U ⟨g,k * 5,O⟩) (n+1-k) (cap-k)) w at s3;go_wp2_with (first | (at_builtin; refine wpList_copy_run rfl _ _ 32 rfl rfl rfl q2 ?_) | fail);go_ret;exact Q.out
theorem Gu (B g n cap:Nat) (cur:Array aM) (l:List C5) (k:Nat) (c:C5) (b:Nat) (W:aB) (hn:n=l.length) (hg:dJ W g cur 70) (hcm:cap<=maxLen) (hnc:n<=cap) (ht:cur.toList.take (n * 5)=flat EC l) (hx:dJ W b (cells5 c).toArray 70) (hk:k<n) (hroom:cap<n+1) (hl:n<=100) (hB:B<=W.heap.size) :
  aO L 180 #[J (U ⟨g,0,O⟩) n cap,ay aA k,J (U ⟨b,0,O⟩) 1 1] W (Ke B l k c W):=by
 have hgw:=hg.lt;have hbw:=hx.lt;obtain⟨G,R1,R2,R3,hG1,hG2,r1,r2,r3,ow⟩:=vS (E:=EC) (l:=l) (k:=k) (cap:=cap) (cur:=cur) (cs:=(cells5 c).toArray) (c:=c) uq 3 bM (by omega) (by omega) (by omega) (by omega) (by rw [<- hn]; exact ht) W g b hg hbw;unfold maxLen at hcm hG2;have s0:=gX (E:=EC) uq g k n cap (by omega) (by omega);have s1:=kE (E:=EC) uq ⟨g,0,O⟩ k n cap (by omega);have s2:=gX (E:=EC) uq W.heap.size k (n+1) G (by omega) (by omega);have s3:=gX (E:=EC) uq W.heap.size (k+1) (n+1) G (by omega) (by omega);have a1:=r1 32;have n1:=dO W.drew R1 70;have bl:W.drew.heap.size=W.heap.size:=rfl;rw [bl] at n1;have g1:dJ (W.drew.alloc (au R1 70)) g cur 70:=dJ.more (show dJ W.drew g cur 70 from hg) _;have x1:dJ (W.drew.alloc (au R1 70)) b (cells5 c).toArray 70:=dJ.more (show dJ W.drew b _ 70 from hx) _;have q2:=r2 (W.drew.alloc (au R1 70)) 3 (n+1-k) (G-k) n1 x1 rfl (by omega);have q3:=r3 ((W.drew.alloc (au R1 70)).setRow W.heap.size R2).drew 3 (n+1-(k+1)) (G-(k+1)) (n-k) (cap-k) (dJ.set n1 R2) (dJ.other g1 (by omega) R2) (by omega);have Q:=ah (show Ke B l k c W (V (J (U ⟨W.heap.size,0,O⟩) (n+1) G)) (((W.drew.alloc (au R1 70)).setRow W.heap.size R2).drew.setRow W.heap.size R3) from ⟨_,rfl,by rw [hn]; exact ow _ B hB (dJ.set (dJ.set n1 R2) R3),below_setRow (below_setRow ((aj B W).drew.alloc hB _) hB _).drew hB _⟩);have l1:l.length+1=n+1:=by rw [hn]
 rw [l1,<- hn] at a1;clear r1 r2 r3 ow hg ht hx g1 x1 n1 bl l1;change ∀ w,(Z 32 (J (U ⟨g,0,O⟩) n cap) (U (ay aA k)) O O).run L w=.ok (J (U ⟨g,k * 5,O⟩) (n-k) (cap-k)) w at s0;change ∀ w,(Z 32 (J (U ⟨g,0,O⟩) n cap) O (U (ay aA k)) O).run L w=.ok (J (U ⟨g,0,O⟩) k cap) w at s1;change ∀ w,(Z 32 (J (U ⟨W.heap.size,0,O⟩) (n+1) G) (U (ay aA k)) O O).run L w=.ok (J (U ⟨W.heap.size,k * 5,O⟩) (n+1-k) (G-k)) w at s2;change ∀ w,(Z 32 (J (U ⟨W.heap.size,0,O⟩) (n+1) G) (U (ay aA ((k:Int)+1))) O O).run L w=.ok (J (U ⟨W.heap.size,(k+1) * 5,O⟩) (n+1-(k+1)) (G-(k+1))) w at s3;change (aC #[32,3] 32 #[J (U ⟨g,0,O⟩) k cap,ay aA ((n:Int)+1-k)]).run L W=.ok (J (U ⟨W.heap.size,0,O⟩) (n+1) G) (W.drew.alloc (au R1 70)) at a1;change (aG #[32,32] 3 #[J (U ⟨W.heap.size,k * 5,O⟩) (n+1-k) (G-k),J (U ⟨b,0,O⟩) 1 1]).run L (W.drew.alloc (au R1 70))=.ok (ay aA 1) ((W.drew.alloc (au R1 70)).setRow W.heap.size R2) at q2;change (aG #[32,32] 3 #[J (U ⟨W.heap.size,(k+1) * 5,O⟩) (n+1-(k+1)) (G-(k+1)),J (U ⟨g,k * 5,O⟩) (n-k) (cap-k)]).run L ((W.drew.alloc (au R1 70)).setRow W.heap.size R2).drew=.ok (ay aA ((l.length-k:Nat):Int)) (((W.drew.alloc (au R1 70)).setRow W.heap.size R2).drew.setRow W.heap.size R3) at q3;have e1:((k:Int) == (n:Int))=aP:=by rw [beq_eq_false_iff_ne]; omega
 have e2:decide ((cap:Int)<(n:Int)+1)=bR:=by simp; omega
 have hGn:n+1<=G:=by omega
 clear hn;generalize W.heap.size=N at *;generalize W.drew.alloc (au R1 70)=W1 at *;generalize W1.setRow N R2=W2 at *;go_enter bL,bG;go_wp2_with (first | (at_builtin; refine je rfl _ _ 32 3 rfl rfl rfl a1 ?_) | (at_builtin; refine wpList_copy_run rfl _ _ 32 rfl rfl rfl q2 ?_) | fail);clear a1 q2 s0 s1 s2 s3;have hw1:IntKind.i64.wrap ((k:Int)+1)=(k:Int)+1:=by rw [aR]; omega
 have hb1:(0:Int)<=(k:Int)+1:=by omega
 have hb0:(k:Int)+1<=(n:Int)+1:=by omega
 have htn:((k:Int)+1).toNat=k+1:=by omega
 have hb2:¬ (G=k+1):=by omega
 have hb3:(k:Int)<=(n:Int):=by omega
 have hb4:¬ (cap=k):=by omega
 have h81:n+1-(k+1)=n-k:=by omega
 rw [h81] at q3;clear h81
 go_region_law (refine iX rfl (aF 50) (aF 53) 32 rfl (v:=J (U ⟨N,(k+1) * 5,O⟩) (n-k) (G-(k+1))) (xv:=J (U ⟨g,k * 5,O⟩) (n-k) (cap-k)) (by simp [aT,bf]) (by simp [aT,bf]) q3 ?_)
 all_goals simp only [Exit.then]
 all_goals apply_assumption
 go_wp2;go_ret;exact Q.out
theorem Kh (B:Nat) (v:aM) (l:List C5) (k:Nat) (c:C5) (b:Nat) (W:aB) (ho:gP W B v l) (hx:dJ W b (cells5 c).toArray 70) (hne:v.ownBlock≠U b) (hk:k<=l.length) (hl:l.length<=100) (hB:B<=W.heap.size) :
  aO L 180 #[v,ay aA k,J (U ⟨b,0,O⟩) 1 1] W (Ke B l k c W):=by
 rcases aS k l.length with h|h
 ·rcases gK ho with⟨_,h2⟩|⟨g,cap,cur,rfl,h1,h2,h3,h4,h5,h6⟩
  ·rw [h2] at h; simp at h
  ·rcases aS cap (l.length+1) with h7|h7
   ·exact Gu B g _ cap cur l k c b W rfl h2 h4 h3 h6 hx h h7 hl hB
   ·exact Ey B g _ cap cur l k c b W rfl h1 h2 h4 h5 h6 hx (fun e=>hne (by simp [bS,e])) h h7 hl
 ·obtain rfl:k=l.length:=by omega
  exact Kg B v l c b W ho hx hl hB
end Pr
end Go.Proofs.YtmklifheakemeaaGreat
