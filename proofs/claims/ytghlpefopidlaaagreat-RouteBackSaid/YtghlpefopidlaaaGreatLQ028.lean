/-
  of, wider, one of pa. Conditions as told.
-/
import Derived.Test.YtghlpefopidlaaaGreatLQ026
set_option maxRecDepth 100000
set_option maxHeartbeats 64000000
open _root_.Go renaming World->aA,Value->aB,Calls->bI,Addr->bN
open Go.Act renaming put->aY
open Go.Builtin renaming append_->aP
open Go.Ending renaming returned->aL
open Go.IntKind renaming i64->O
open Go.Lib renaming hid->L
open Go.Obj renaming cells->ay
open Go.Operand renaming tmp->ak
open Go.Proofs.Tryz renaming prog->au,results86->bK,results59->bL,ntmps171->bO,func171->bV
open Go.Proofs.YtghlpefopidlaaaGreat.Rg renaming dG->aI,get_put->bM,dU->bW,dP->bX,gD->bZ,gQ->cu,fZ->cB,jg->cK,iY->cO,kP->cZ
open Go.RowKit.Below renaming refl->ah
open Go.Value renaming slice->J,int->U,pointer->Y,string->Z,agg->aR,bool->aZ
open _root_.Int renaming toNat_natCast->aQ
open _root_.List renaming getElem?_eq_getElem->aj,getElem?_toArray->aF,length_map->aG,getElem?_map->aH,length_append->aK,getElem?_cons_zero->aM,getElem?_cons_succ->aN,map_toArray->aS,mem_of_getElem?->aV,getElem?_set_ne->aX,map_cons->bf,map_nil->bF,take_add_one->bG,length_take->bH
open _root_.Nat renaming le_trans->aC,le_refl->aJ,zero_le->aO,mul_le_mul->aW,lt_of_le_of_lt->bg,lt_or_ge->bR,le_of_lt->bS,zero_add->bU,add_mul->bY
open _root_.Option renaming some->V,none->X
open Option.some renaming inj->aU
open _root_.Or renaming inr->aD,inl->aT
namespace Go.Proofs.YtghlpefopidlaaaGreat
namespace Rl
open Go.RowKit Go.Sort Pu Rw Pr Va
abbrev z5:C5:=(⟨#[]⟩,0,0,0,⟨#[]⟩)
def ofV:Option Cn->aB
 | some y=>.tuple #[cv (r5 y),aZ true]
 | none=>.tuple #[cv z5,aZ false]
theorem ah4 (pv:aB) (p:List Cn) (n:ByteArray) (w:aA) (hp:fI w pv (p.map r5)) (_h100:p.length<=100) :
  bI au 86 #[pv,Z n] w fun e w'=>e=aL (ofV (ofC p n))/\Below w.heap.size w w':=by
 have HP:=L hp;obtain⟨ao,ac,rfl⟩:=hp.len;rw [aG] at HP ⊢;generalize hm:p.length=m at *;have HM:=L hm;clear hp hm;have B0:=L (show Below w.heap.size w (w.alloc (ay #[Z ⟨#[]⟩,U O 0,U O 0,U O 0,Z ⟨#[]⟩] 91)) from (ah _ _).alloc (aJ _) _);have Z0:=L (show dK (w.alloc (ay #[Z ⟨#[]⟩,U O 0,U O 0,U O 0,Z ⟨#[]⟩] 91)) w.heap.size (cells5 z5).toArray 91 from dQ w _ _);go_enter Tryz.func86,Tryz.ntmps86;go_wp2;generalize w.alloc (ay #[Z ⟨#[]⟩,U O 0,U O 0,U O 0,Z ⟨#[]⟩] 91)=w1 at B0 Z0 ⊢
 go_loopw [10] (fun i wr=>∃ k:Nat,k<=m/\i=U O k/\Below w.heap.size w wr/\dK wr w.heap.size (cells5 z5).toArray 91/\∀ (j:Nat) (y:Cn),j<k->p[j]?=V y->y.1≠n) (fun i _=>m-(intOf i).toNat)
 case atStart=>exact⟨0,aO _,rfl,B0.out,Z0.out,fun j y h=>by omega⟩
 case round =>
  obtain⟨k,hk,rfl,hb,ht,hall⟩:=hrel;have HB:=L hb;have HT:=L ht;have AL:=L hall;clear hb hall ht;by_cases hlt:k<m
  ·obtain⟨⟨xn,xk⟩,hx⟩:∃ x,p[k]?=V x:=⟨_,aj (by rw [HM.out]; exact hlt)⟩;obtain⟨q,ix,px⟩:=elC (x:=r5 (xn,xk)) HP.out rfl (by rw [aG]; exact HM.out) (by rw [aH,hx]; rfl);obtain⟨p0,p1,p2,p3,p4⟩:=px _ HB.out;have HX:=L hx;have B4:=L (HB.out.alloc HB.out.size (ay #[Z xn,U O (kN xk),U O (kH xk),U O (kI xk),Z (kT xk)] 91));have T4:=L (HT.out.more (ay #[Z xn,U O (kN xk),U O (kH xk),U O (kI xk),Z (kT xk)] 91));clear hx px;simp only [r5] at p0 p1 p2 p3 p4;by_cases he:xn=n
   ·have hn:(xn.toList == n.toList)=true:=by rw [he]; exact beq_self_eq_true _
    have R:=L (ajQ HX.out he AL.out);clear he;obtain⟨c0,c1,c2,c3,c4⟩:=fG HT.out;have f0:=HT.out.fr 0;have f1:=HT.out.fr 1;have f2:=HT.out.fr 2;have f3:=HT.out.fr 3;have f4:=HT.out.fr 4;have ana:=HT.out.lt;simp only at c0 c1 c2 c3 c4;go_wp2;have T5:=(wm HT.out (xn,kN xk,kH xk,kI xk,kT xk)).more (ay #[Z xn,U O (kN xk),U O (kH xk),U O (kI xk),Z (kT xk)] 91);have B5:=(iR HB.out w.heap.size (aJ _) (Z xn) (U O (kN xk)) (U O (kH xk)) (U O (kI xk)) (Z (kT xk))).alloc (iR HB.out w.heap.size (aJ _) (Z xn) (U O (kN xk)) (U O (kH xk)) (U O (kI xk)) (Z (kT xk))).size (ay #[Z xn,U O (kN xk),U O (kH xk),U O (kI xk),Z (kT xk)] 91);generalize World.alloc _ (ay #[Z xn,U O (kN xk),U O (kH xk),U O (kI xk),Z (kT xk)] 91)=w6 at T5 B5 ⊢;obtain⟨d0,d1,d2,d3,d4⟩:=fG T5;simp only at d0 d1 d2 d3 d4;refine bodyPost_ret (v:=ofV (V (xn,xk))) (by simp [results,bK,go_sem,d0,d1,d2,d3,d4,ofV,r5]) rfl ⟨by rw [R.out],B5⟩
   ·have hn:(xn.toList == n.toList)=false:=by rw [beq_eq_false_iff_ne]; exact fun h=>he (uP h)
    have HE:=L he;clear he;go_wp2
    go_roundw
    case rel=>exact⟨k+1,by omega,by go_num,B4.out,T4.out,fun j y hj hy=>by
     rcases bR j k with h3|h3
     ·exact AL.out j y h3 hy
     ·obtain rfl:j=k:=by omega
      have e:=HX.out;rw [hy] at e;rw [aU e];exact HE.out⟩
    case measure=>simp [intOf]; omega
  ·obtain rfl:k=m:=by omega
   have R:=L (ab3 (p:=p) (n:=n) (fun j y hj hy=>AL.out j y (by rw [<- HM.out]; exact hj) hy));obtain⟨c0,c1,c2,c3,c4⟩:=fG HT.out;have f0:=HT.out.fr 0;have f1:=HT.out.fr 1;have f2:=HT.out.fr 2;have f3:=HT.out.fr 3;have f4:=HT.out.fr 4;have ana:=HT.out.lt;simp only at c0 c1 c2 c3 c4;go_wp2;have T5:=wm HT.out z5;have B5:=iR HB.out w.heap.size (aJ _) (Z ⟨#[]⟩) (U O 0) (U O 0) (U O 0) (Z ⟨#[]⟩);simp only at T5;generalize World.setCell _ _ (Z ⟨#[]⟩)=w6 at T5 B5 ⊢;obtain⟨d0,d1,d2,d3,d4⟩:=fG T5;simp only at d0 d1 d2 d3 d4;refine bodyPost_ret (v:=ofV X) (by simp [results,bK,go_sem,d0,d1,d2,d3,d4,ofV]) rfl ⟨by rw [R.out],B5⟩
theorem Uz (n:ByteArray) (c d:Kd) (w:aA) (hc:iE c=true) (hd:iE d=true) :
  bI au 87 #[cv (r5 (n,c)),cv (r5 (n,d))] w fun e w'=>e=aL (aZ (fE d c))/\Below w.heap.size w w':=by
 obtain⟨ba,bb,hb⟩:=Xi w (r5 (n,c)) (r5 (n,d));have BB:=L bb;have B:=L hb;have CB:=L (Ki (n,c) (n,d) ((w.alloc (ay (cells5 (r5 (n,c))).toArray 91)).alloc (ay (cells5 (r5 (n,d))).toArray 91)) rfl);have WS:=L (fun k (h:fH c d=V k)=>Oj (n:=n) hc hd h);have WN:=L (fun (h:fH c d=X)=>Ol hd h);simp only at CB;generalize fH c d=r at *;generalize fE d c=i at *;clear ba bb hb hc hd;simp only [r5] at CB ⊢;go_enter Tryz.func87,Tryz.ntmps87;go_wp2_with fail;refine CB.out.mono ?_;rintro e w2 ⟨⟨y,rfl,hy⟩,hb2⟩;have B2:=L (B.out.trans (hb2.mono B.out.size));obtain⟨b0,b1,b2,b3,b4⟩:=fG (BB.out.on hb2);simp only [r5] at b0 b1 b2 b3 b4;have B3:=L (B2.out.alloc B2.out.size (ay #[Z y.1,U O y.2.1,U O y.2.2.1,U O y.2.2.2.1,Z y.2.2.2.2] 91));have HY:=L hy;have hw2:w.heap.size+1<w2.heap.size:=by have:=hb2.size; simp at this; omega
 clear hb2 CB BB B hy;rcases r with _|k
 ·have E:=L (WN.out rfl);clear WN WS;go_wp2;go_ret;exact⟨eX E.out.symm,B3.out⟩
 ·have E:=L (show Az y (r5 (n,d))=i by rw [HY.out k rfl]; exact WS.out k rfl);obtain⟨y0,y1,y2,y3,y4⟩:=y;clear WN WS HY B3;go_wp2
  all_goals go_ret
  all_goals exact⟨eX (by rw [<- E.out]; simp [Az,r5, *]),B2.out.alloc B2.out.size _⟩
theorem acH {α:Type} (f:α->Bool) (l:List α) (m:Nat) (h:l.length=m):(l.take m).all f=l.all f:=by rw [<- h,List.take_length]
theorem OJ (pv qv:aB) (p b:List Cn) (w:aA) (hp:fI w pv (p.map r5)) (hl:fI w qv (b.map r5)) (np:NF p) (nb:NF b) :
  bI au 27 #[pv,qv] w fun e w'=>e=aL (aZ (qV p b))/\Below w.heap.size w w':=by
 have CO:=L (Ug (a:=p) nb.rise);have HP:=L hp;have HL:=L hl;have h5:b.length<=100:=by have:=nb.five; omega
 have GP:=L np.iE;have GB:=L nb.iE;have m5:p.length<=5:=np.five;obtain⟨ao,ac,rfl⟩:=hp.len;rw [aG] at HP ⊢;generalize hm:p.length=m at *;have HM:=L hm;generalize qV p b=r at *;clear hp hl hm np nb;go_enter Tryz.func27,Tryz.ntmps27;go_wp2
 go_loopw [11] (fun i wr=>∃ k:Nat,k<=m/\i=U O k/\Below w.heap.size w wr/\(p.take k).all (Oi b)=true) (fun i _=>m-(intOf i).toNat)
 case atStart=>exact⟨0,aO _,rfl,ah _ _,rfl⟩
 case round =>
  obtain⟨k,hk,rfl,hb,hall⟩:=hrel;have HB:=L hb;have AL:=L hall;clear hb hall;by_cases hlt:k<m
  ·obtain⟨⟨xn,xk⟩,hx⟩:∃ x,p[k]?=V x:=⟨_,aj (by rw [HM.out]; exact hlt)⟩;obtain⟨q,ix,px⟩:=elC (x:=r5 (xn,xk)) HP.out rfl (by rw [aG]; exact HM.out) (by rw [aH,hx]; rfl);obtain⟨p0,p1,p2,p3,p4⟩:=px _ HB.out;have MO:=L (Kk (Oi b) p k (xn,xk) hx);have NO:=L (fun h=>Qk (Oi b) p k (xn,xk) hx h);have GX:=L (GP.out _ (aV hx));have BX:=L (show dK (wr.alloc (ay #[Z xn,U O (kN xk),U O (kH xk),U O (kI xk),Z (kT xk)] 91)) wr.heap.size (cells5 (xn,kN xk,kH xk,kI xk,kT xk)).toArray 91 from dQ wr _ _);have B1:=L (HB.out.alloc HB.out.size (ay #[Z xn,U O (kN xk),U O (kH xk),U O (kI xk),Z (kT xk)] 91));have G:=L (ah4 qv b xn (wr.alloc (ay #[Z xn,U O (kN xk),U O (kH xk),U O (kI xk),Z (kT xk)] 91)) (HL.out.on B1.out) h5);have GC:=L (show Oi b (xn,xk)=match ofC b xn with
    | some y=>fE y.2 xk
    | none=>false from rfl)
   obtain⟨gg,hgg⟩:∃ g,Oi b (xn,xk)=g:=⟨_,rfl⟩;rw [hgg] at GC MO NO;simp only [r5] at p0 p1 p2 p3 p4;clear hx px hgg;go_wp2_with fail;refine G.out.mono ?_;rintro e2 w2 ⟨he2,hb2⟩;have B2:=L (B1.out.trans (hb2.mono B1.out.size));obtain⟨x0,x1,x2,x3,x4⟩:=fG (BX.out.on hb2);simp only at x0 x1 x2 x3 x4;have hwl:wr.heap.size<w2.heap.size:=by have:=hb2.size; simp at this; omega
   rcases hg:ofC b xn with _|⟨yn,yk⟩
   ·rw [hg] at he2 GC;subst he2;have R:=L (show r=false by rw [CO.out]; exact NO.out GC.out);clear hb2 G B1 BX ix p0 p1 p2 p3 p4 hg;unfold ofV;go_wp2;go_ret;exact⟨eX R.out.symm,B2.out.alloc B2.out.size _⟩
   ·obtain⟨hm1,hm2⟩:=Xx hg;obtain rfl:yn=xn:=hm2;rw [hg] at he2 GC;subst he2;have WC:=L (fun W=>Uz yn xk yk W GX.out (GB.out _ hm1));simp only [r5] at WC;clear hb2 G B1 BX ix p0 p1 p2 p3 p4 hg hm1;unfold ofV;simp only [r5];go_wp2_with fail;refine (WC.out _).mono ?_;rintro e3 w3 ⟨rfl,hb3⟩;have B3:=L ((B2.out.alloc B2.out.size (ay #[Z yn,U O (kN yk),U O (kH yk),U O (kI yk),Z (kT yk)] 91)).trans (hb3.mono (B2.out.alloc B2.out.size (ay #[Z yn,U O (kN yk),U O (kH yk),U O (kI yk),Z (kT yk)] 91)).size));rw [<- GC.out];clear hb3 B2 x0 x1 x2 x3 x4 hwl WC;cases gg
    ·have R:=L (show r=false by rw [CO.out]; exact NO.out rfl);go_wp2;go_ret;exact⟨eX R.out.symm,B3.out⟩
    ·go_wp2
     go_roundw
     case rel=>exact⟨k+1,by omega,by go_num,B3.out,by rw [MO.out,AL.out]; rfl⟩
     case measure=>simp [intOf]; omega
  ·obtain rfl:k=m:=by omega
   have R:=L (show r=true by rw [CO.out,<- acH _ p _ HM.out]; exact AL.out);go_wp2;go_ret;exact⟨eX R.out.symm,HB.out⟩
end Rl
namespace Bk
open Go.RowKit Go.Sort Rw YtghlpefopidlaaaGreat.Nm Pr
structure Ou where
 jh:Int
 kind:Int
 tree:Id
 id:Id
 p:List C5
def uI (W:aA) (x:mX) (o:Ou):Prop:=x.1=o.jh/\x.2.1=o.kind/\(x.2.2.1,x.2.2.2.1)=o.tree/\(x.2.2.2.2.1,x.2.2.2.2.2.1)=o.id/\fI W (dX x.2.2.2.2.2.2.1) o.p/\x.2.2.2.2.2.2.2=(X,0,0)
theorem uI.on {W W':aA} {x:mX} {o:Ou} (h:uI W x o) (hb:Below W.heap.size W W'):uI W' x o:=⟨h.1,h.2.1,h.2.2.1,h.2.2.2.1,h.2.2.2.2.1.on hb,h.2.2.2.2.2⟩
def kG (W:aA) (s:Sl) (l:List Ou):Prop:=∃ xs,TP W (dX s) xs/\eY (uI W) xs l
theorem kG.on {W W':aA} {s:Sl} {l:List Ou} (h:kG W s l) (hb:Below W.heap.size W W'):kG W' s l:=by
 obtain⟨xs,h1,h2⟩:=h;exact⟨xs,h1.on hb,h2.mono fun _ _ h=>h.on hb⟩
theorem sw (W:aA):kG W (X,0,0) []:=⟨[],jo _,.nil⟩
def qJ (jh:Int) (e:En):Ou:=⟨jh,3,e.tree,e.sub,e.p⟩
abbrev OQ (jh:Int) (x:jk):mX:=(jh,3,x.1,x.2.1,x.2.2.1,x.2.2.2.1,x.2.2.2.2.1,(X,0,0))
theorem ah5 {W:aA} {x:jk} {e:En} (h:jJ W x e) (t:Int):uI W (OQ t x) (qJ t e):=⟨rfl,rfl,h.1,h.2.1,h.2.2.2.2,rfl⟩
def jI (b:Br) (t x:Id) (f:Int):Br×List Ou:=if (takeB b t x f).2.2=false then ((takeB b t x f).1,[]) else
 match b.dO[(fO (b.dO.map Ad.id) t).toNat]? with
 | none=>((takeB b t x f).1,[])
 | some a=>((takeB b t x f).1,(takeB b t x f).2.1.map (qJ a.par)++[⟨a.par,4,t,x,[]⟩])
theorem jP (b:Br) (t x:Id) (f:Int):(takeB b t x f).1.dO=b.dO/\(takeB b t x f).1.near=b.near/\(takeB b t x f).1.me=b.me/\(takeB b t x f).1.seen=b.seen/\(takeB b t x f).1.own=b.own:=by
 unfold takeB
 split
 ·exact⟨rfl,rfl,rfl,rfl,rfl⟩
 ·split
  ·exact⟨rfl,rfl,rfl,rfl,rfl⟩
  ·split
   ·exact⟨rfl,rfl,rfl,rfl,rfl⟩
   ·split <;> exact⟨rfl,rfl,rfl,rfl,rfl⟩
theorem Df {b:Br} {t x:Id} {f:Int} (h:(takeB b t x f).2.2=true):∃ e∈b.ent,e.tree=t:=by
 unfold takeB at h
 split at h
 ·cases h
 ·rename_i e he
  split at h
  ·cases h
  ·rename_i h1
   rcases mH (b.ent.map dY) (t,x) with h2|⟨k,h2,h3⟩
   ·exact absurd h2 h1
   ·rw [h2,aQ] at he;refine⟨e,aV he,?_⟩;rw [aH,he] at h3;exact congrArg Prod.fst (aU h3)
theorem qw (b:Br) (t x:Id) (f:Int):(takeB b t x f).1.ent.length<=b.ent.length/\(takeB b t x f).2.1.length<=b.ent.length:=by
 unfold takeB
 split
 ·simp
 ·split
  ·simp
  ·split
   ·simp
   ·have hc:(cutAt b.ent (jc (b.ent.map dY) (t,x)).toNat).length<=b.ent.length:=by
     unfold cutAt;rw [aK,bH,List.length_drop];omega
    split
    ·exact⟨hc,by simp⟩
    ·have h1:=qm t (cutAt b.ent (jc (b.ent.map dY) (t,x)).toNat) (cutAt b.ent (jc (b.ent.map dY) (t,x)).toNat).length;exact⟨by rw [show ((iN t _ _).1.length)=_ from h1.1]; exact hc,aC h1.2 hc⟩
theorem yD {W x:aA} {b F0:Nat} {cs:Array aB} {t:TypeId} (h:dK W b cs t) (hb:Below F0 W x) (hl:b<F0):dK x b cs t:=(hb.block b hl).trans h
def dV (W F0:Nat) (bv rv:aB) (jh c d c2 d2:Int) (lo:List mX) (i:Nat) (v:aB) (x:aA):Prop :=
 match i with
 | 0=>v=bv
 | 1=>v=rv
 | 2=>v=U O jh
 | 3=>v=nC (c,d)
 | 4=>v=nC (c2,d2)
 | 5=>v=aR #[U O 4,U O c,U O d,U O c2,U O d2,J X 0 0,J X 0 0]
 | 6=>v=uZ (jh,4,c,d,c2,d2,(X,0,0),(X,0,0))
 | 7=>jX x W v [(jh,4,c,d,c2,d2,(X,0,0),(X,0,0))]
 | 8=>∃ sl:Sl,v=dX sl/\jX x F0 v (lo++[(jh,4,c,d,c2,d2,(X,0,0),(X,0,0))])
 | 10=>∃ sl:Sl,v=dX sl/\jX x F0 v (lo++[(jh,4,c,d,c2,d2,(X,0,0),(X,0,0))])
 | _=>True
def dF (W:aA) (F0 b4 b5 b6 b8:Nat) (bc:Array aB) (c d c2 d2:Int) (D:Nat->Prop) (x:aA):Prop :=
 (dK x b4 bc 30/\dK x b5 #[U O c,U O d] 23/\dK x b6 #[U O c2,U O d2] 23)/\(¬ D 8->Below W.heap.size W x)/\(¬ D 9->Below F0 W x)/\(D 9->dK x b8 bc 30/\(∀ j,j<F0->j≠b8->x.heap[j]?=W.heap[j]?)/\∀ B,B<=b8->Below B W x)
noncomputable def QL:Code:=((Tryz.f59.body.bind (eO 11)).getD .skip)
theorem Yl (Q:Exit->Act->aA->Prop) (W:aA) (F0 b4 b5 b6 b8:Nat) (me jh c d c2 d2:Int) (o1 o2 o3 o4 o5:Option bN) (n1 k1 n2 k2 n3 k3 n4 k4 n5 k5:Nat) (rv:aB) (lo:List mX) (z0 z1 z2 z3 z4 z5:aB) (T a0 a3 a4 a5 a6 a7 a8 aE b9 bJ bQ c7 c8 c9 cA cC cD cF cG cH cI cJ cL cM cN cP cQ cR cS cT cU cV cW cX cY d1 d3 d4 d5 d7 d9 dA dC dE dS dT e7 e9 eA eB eC eE:aB)
  (h4:dK W b4 #[U O me,J o1 n1 k1,J o2 n2 k2,J o3 n3 k3,J o4 n4 k4,J o5 n5 k5] 30) (h5:dK W b5 #[U O c,U O d] 23) (h6:dK W b6 #[U O c2,U O d2] 23) (h8:dK W b8 #[z0,z1,z2,z3,z4,z5] 30) (l4:b4<F0) (l5:b5<F0) (l6:b6<F0) (l8:b8<F0) (n4_:b4≠b8) (n5_:b5≠b8) (n6_:b6≠b8) (fw:F0<=W.heap.size) (hown:jX W F0 rv lo) (hlen:lo.length<=1000)
  (hQ:∀ (a:Act) (x:aA) (sl:Sl),a.defers=[]->a.tmps[8]?=V (Y (V ⟨b8,0,X⟩))->a.tmps[9]?=V (dX sl)->dK x b8 #[U O me,J o1 n1 k1,J o2 n2 k2,J o3 n3 k3,J o4 n4 k4,J o5 n5 k5] 30->jX x F0 (dX sl) (lo++[(jh,4,c,d,c2,d2,(X,0,0),(X,0,0))])->(∀ k,k<F0->k≠b8->x.heap[k]?=W.heap[k]?)->(∀ B,B<=b8->Below B W x)->Q .normal a x) :
  Code.wp au QL Q ⟨(T::a0::a3::a4::Y (V ⟨b4,0,X⟩)::Y (V ⟨b5,0,X⟩)::Y (V ⟨b6,0,X⟩)::a5::Y (V ⟨b8,0,X⟩)::a6::a7::a8::U O jh::rv::aE::b9::bJ::bQ::c7::c8::c9::cA::cC::cD::cF::cG::cH::cI::cJ::cL::cM::cN::cP::cQ::cR::cS::cT::cU::cV::cW::cX::cY::d1::d3::d4::d5::d7::d9::dA::dC::dE::dS::dT::e7::e9::eA::eB::eC::eE::[]).toArray,[]⟩ W:=by
 have HQ:=L hQ;have H4:=L h4;have H5:=L h5;have H6:=L h6;have H8:=L h8;have L4:=L l4;have L5:=L l5;have L6:=L l6;have L8:=L l8;have N4:=L n4_;have N5:=L n5_;have N6:=L n6_;have FW:=L fw;have HO:=L hown;have HL:=L hlen;clear hQ h4 h5 h6 h8 l4 l5 l6 l8 n4_ n5_ n6_ fw hown hlen;unfold QL
 conv=>arg 2; whnf
 have nd:∀ j,(∀ i,i<11->[V 50,V 51,V 52,V 53,V 54,V 55,V 56,V 57,V 58,X,V 9].getD i X≠V j)->∀ i,i<11->(fun i=>[V 50,V 51,V 52,V 53,V 54,V 55,V 56,V 57,V 58,X,V 9].getD i X) i≠V j:=fun j h=>h;refine Rg.oJ 11 (fun i=>[V 50,V 51,V 52,V 53,V 54,V 55,V 56,V 57,V 58,X,V 9].getD i X) (fun i=>if i=7 then 8 else 11) (dV W.heap.size F0 (aR #[U O me,J o1 n1 k1,J o2 n2 k2,J o3 n3 k3,J o4 n4 k4,J o5 n5 k5]) rv jh c d c2 d2 lo) (dF W F0 b4 b5 b6 b8 #[U O me,J o1 n1 k1,J o2 n2 k2,J o3 n3 k3,J o4 n4 k4,J o5 n5 k5] c d c2 d2) (by kernel_rfl) (by kernel_rfl) rfl (fun i j e hi hj h1 h2=>(by decide:∀ i,i<11->∀ j,j<11->([V 50,V 51,V 52,V 53,V 54,V 55,V 56,V 57,V 58,X,V 9].getD i X).isSome=true->[V 50,V 51,V 52,V 53,V 54,V 55,V 56,V 57,V 58,X,V 9].getD i X=[V 50,V 51,V 52,V 53,V 54,V 55,V 56,V 57,V 58,X,V 9].getD j X->i=j) i hi j hj (by have h1:[V 50,V 51,V 52,V 53,V 54,V 55,V 56,V 57,V 58,X,V 9].getD i X=V e:=h1; rw [h1]; rfl) (h1.trans h2.symm)) (fun i e hi h=>(by decide:∀ i,i<11->∀ q∈[V 50,V 51,V 52,V 53,V 54,V 55,V 56,V 57,V 58,X,V 9].getD i X,q<59) i hi e h) ⟨⟨H4.out,H5.out,H6.out⟩,fun _=>(ah _ _).drew,fun _=>(ah _ _).drew,False.elim⟩ ?_ ?_
 ·intro i o hi ho a x D hnd hc hD hF seen K hK;clear HQ;have still:∀ i,i≠8->i≠9->dF W F0 b4 b5 b6 b8 #[U O me,J o1 n1 k1,J o2 n2 k2,J o3 n3 k3,J o4 n4 k4,J o5 n5 k5] c d c2 d2 (fun j=>j=i\/D j) x:=fun i h8 h9=>⟨hF.1,fun h=>hF.2.1 fun h2=>h (aD h2),fun h=>hF.2.2.1 fun h2=>h (aD h2),fun h=>hF.2.2.2 (h.resolve_left (Ne.symm h9))⟩;rcases (by omega:i=0\/i=1\/i=2\/i=3\/i=4\/i=5\/i=6\/i=7\/i=8\/i=9\/i=10) with rfl|rfl|rfl|rfl|rfl|rfl|rfl|rfl|rfl|rfl|rfl
  ·cases ho;have e4:a.eval (ak 4)=Y (V ⟨b4,0,X⟩):=seen.kp 4 _ (nd 4 (by decide)) rfl;exact aI rfl rfl (bW a.eval _ 30 (ak 4) rfl (by rw [e4]; exact tJ hF.1.1)) (hK _ _ rfl (still 0 (by decide) (by decide)) fun _ _ _ _ _ _ _ h=>h)
  ·cases ho;have e13:a.eval (ak 13)=rv:=seen.kp 13 _ (nd 13 (by decide)) rfl;exact aI rfl rfl (bZ a.eval _ (ak 13) rfl x) (hK _ _ e13 (still 1 (by decide) (by decide)) fun _ _ _ _ _ _ _ h=>h)
  ·cases ho;have e12:a.eval (ak 12)=U O jh:=seen.kp 12 _ (nd 12 (by decide)) rfl;exact aI rfl rfl (bZ a.eval _ (ak 12) rfl x) (hK _ _ e12 (still 2 (by decide) (by decide)) fun _ _ _ _ _ _ _ h=>h)
  ·cases ho;have e5:a.eval (ak 5)=Y (V ⟨b5,0,X⟩):=seen.kp 5 _ (nd 5 (by decide)) rfl;exact aI rfl rfl (bW a.eval _ 23 (ak 5) rfl (by rw [e5]; exact Gc x _ (c,d) (Qj hF.1.2.1))) (hK _ _ rfl (still 3 (by decide) (by decide)) fun _ _ _ _ _ _ _ h=>h)
  ·cases ho;have e6:a.eval (ak 6)=Y (V ⟨b6,0,X⟩):=seen.kp 6 _ (nd 6 (by decide)) rfl;exact aI rfl rfl (bW a.eval _ 23 (ak 6) rfl (by rw [e6]; exact Gc x _ (c2,d2) (Qj hF.1.2.2))) (hK _ _ rfl (still 4 (by decide) (by decide)) fun _ _ _ _ _ _ _ h=>h)
  ·cases ho;have e53:a.eval (ak 53)=nC (c,d):=seen.at_ ⟨3,.data⟩ (by simp) rfl (aD (by decide)) _ rfl;have e54:a.eval (ak 54)=nC (c2,d2):=seen.at_ ⟨4,.data⟩ (by simp) rfl (aD (by decide)) _ rfl;exact aI rfl rfl (cK a.eval _ 43 #[(0,.const (U O 4)),(1,ak 53),(2,ak 54)] rfl (ps:=#[(0,U O 4),(1,nC (c,d)),(2,nC (c2,d2))]) (by simp only [aS,bf,bF,e53,e54]; rfl) (by simp [go_sem])) (hK _ _ rfl (still 5 (by decide) (by decide)) fun _ _ _ _ _ _ _ h=>h)
  ·cases ho;have e52:a.eval (ak 52)=U O jh:=seen.at_ ⟨2,.data⟩ (by simp) rfl (aD (by decide)) _ rfl;have e55:a.eval (ak 55)=aR #[U O 4,U O c,U O d,U O c2,U O d2,J X 0 0,J X 0 0]:=seen.at_ ⟨5,.data⟩ (by simp) rfl (aD (by decide)) _ rfl;exact aI rfl rfl (cK a.eval _ 46 #[(0,ak 52),(1,ak 55)] rfl (ps:=#[(0,U O jh),(1,aR #[U O 4,U O c,U O d,U O c2,U O d2,J X 0 0,J X 0 0])]) (by simp only [aS,bf,bF,e52,e55]) (by simp [go_sem])) (hK _ _ rfl (still 6 (by decide) (by decide)) fun _ _ _ _ _ _ _ h=>h)
  ·cases ho;have e56:a.eval (ak 56)=uZ (jh,4,c,d,c2,d2,(X,0,0),(X,0,0)):=seen.at_ ⟨6,.data⟩ (by simp) rfl (aD (by decide)) _ rfl;have n8:¬ D 8:=fun h=>hnd (hc 8 _ h rfl ⟨7,.data⟩ (by simp) rfl);have n9:¬ D 9:=fun h=>n8 (hc 9 _ h rfl ⟨8,.chain⟩ (by simp) rfl);have hb:=hF.2.1 n8;have hl:=jC Ew x [((jh,4,c,d,c2,d2,(X,0,0),(X,0,0)):mX)] 1 rfl (by simp) (jK (jh,4,c,d,c2,d2,(X,0,0),(X,0,0))).toArray (by simp [flat,EU]);have nb:=gN x (ay (jK (jh,4,c,d,c2,d2,(X,0,0),(X,0,0))).toArray 46);exact aI rfl rfl (cO a.eval _ 37 1 #[(0,ak 56)] rfl (ps:=#[(0,uZ (jh,4,c,d,c2,d2,(X,0,0),(X,0,0)))]) (by simp [e56]) (by simp [go_sem])) (hK (J (V ⟨x.heap.size,0,X⟩) 1 1) (x.alloc (ay (jK (jh,4,c,d,c2,d2,(X,0,0),(X,0,0))).toArray 46)) (dM hl hb.size) ⟨⟨hF.1.1.on nb,hF.1.2.1.on nb,hF.1.2.2.on nb⟩,fun _=>hb.trans (nb.mono hb.size),fun _=>(hb.trans (nb.mono hb.size)).mono FW.out,fun h=>absurd (h.resolve_left (by decide)) n9⟩ fun j u hj dj nl nx ni h=>by
    rcases (by omega:j=0\/j=1\/j=2\/j=3\/j=4\/j=5\/j=6\/j=7\/j=8\/j=9\/j=10) with rfl|rfl|rfl|rfl|rfl|rfl|rfl|rfl|rfl|rfl|rfl
    ·exact h
    ·exact h
    ·exact h
    ·exact h
    ·exact h
    ·exact h
    ·exact h
    ·exact absurd rfl ni
    ·exact absurd dj n8
    ·exact h
    ·exact absurd (hc 10 _ dj rfl ⟨8,.data⟩ (by simp) rfl) n8)
  ·cases ho;have e51:a.eval (ak 51)=rv:=seen.at_ ⟨1,.data⟩ (by simp) rfl (aD (by decide)) _ rfl;have o57:jX x W.heap.size (a.eval (ak 57)) [(jh,4,c,d,c2,d2,(X,0,0),(X,0,0))]:=seen.at_ ⟨7,.data⟩ (by simp) rfl (aT rfl) _ rfl;have hb:=hF.2.1 hnd;have n9:¬ D 9:=fun h=>hnd (hc 9 _ h rfl ⟨8,.chain⟩ (by simp) rfl);have n10:¬ D 10:=fun h=>hnd (hc 10 _ h rfl ⟨8,.data⟩ (by simp) rfl);obtain⟨v',x',r,o',gr⟩:=gZ Ew F0 (Bk.dI HO.out hb) (Row.dJ o57) HL.out (by simp) (aC FW.out hb.size) 37;obtain⟨sa,sc,hsv⟩:=(Row.dJ o').len;have hb2:Below F0 W x':=(hb.mono FW.out).grown gr (aC FW.out hb.size) fun j hj=>((Bk.dI HO.out hb).lt j hj).1;have vv:dV W.heap.size F0 (aR #[U O me,J o1 n1 k1,J o2 n2 k2,J o3 n3 k3,J o4 n4 k4,J o5 n5 k5]) rv jh c d c2 d2 lo 8 v' x':=⟨(sa,(lo++[(jh,4,c,d,c2,d2,(X,0,0),(X,0,0))]).length,sc),hsv,o'⟩;have ff:dF W F0 b4 b5 b6 b8 #[U O me,J o1 n1 k1,J o2 n2 k2,J o3 n3 k3,J o4 n4 k4,J o5 n5 k5] c d c2 d2 (fun j=>j=8\/D j) x':=⟨⟨yD H4.out hb2 L4.out,yD H5.out hb2 L5.out,yD H6.out hb2 L6.out⟩,fun h=>absurd (aT rfl) h,fun _=>hb2,fun h=>absurd (h.resolve_left (by decide)) n9⟩;have st:∀ j u,j<11->D j->(fun i=>if i=7 then 8 else 11) j≠8->j≠8->dV W.heap.size F0 (aR #[U O me,J o1 n1 k1,J o2 n2 k2,J o3 n3 k3,J o4 n4 k4,J o5 n5 k5]) rv jh c d c2 d2 lo j u x->dV W.heap.size F0 (aR #[U O me,J o1 n1 k1,J o2 n2 k2,J o3 n3 k3,J o4 n4 k4,J o5 n5 k5]) rv jh c d c2 d2 lo j u x':=fun j u hj dj nx ni h=>by
    rcases (by omega:j=0\/j=1\/j=2\/j=3\/j=4\/j=5\/j=6\/j=7\/j=8\/j=9\/j=10) with rfl|rfl|rfl|rfl|rfl|rfl|rfl|rfl|rfl|rfl|rfl
    ·exact h
    ·exact h
    ·exact h
    ·exact h
    ·exact h
    ·exact h
    ·exact h
    ·exact absurd rfl nx
    ·exact absurd rfl ni
    ·exact h
    ·exact absurd dj n10
   have q:=hK v' x' vv ff fun j u hj dj _ nx ni h=>st j u hj dj nx ni h;exact aI rfl rfl (cu a.eval _ (ak 51) (ak 57) 37 rfl e51 rfl r) q
  ·cases ho;have e50:a.eval (ak 50)=aR #[U O me,J o1 n1 k1,J o2 n2 k2,J o3 n3 k3,J o4 n4 k4,J o5 n5 k5]:=seen.at_ ⟨0,.data⟩ (by simp) rfl (aD (by decide)) _ rfl;have e8:a.eval (ak 8)=Y (V ⟨b8,0,X⟩):=seen.kp 8 _ (nd 8 (by decide)) rfl;obtain⟨sl,h58,o58⟩:∃ sl:Sl,a.eval (ak 58)=dX sl/\jX x F0 (a.eval (ak 58)) (lo++[(jh,4,c,d,c2,d2,(X,0,0),(X,0,0))]):=seen.at_ ⟨8,.chain⟩ (by simp) rfl (aD (by decide)) _ rfl;have hb:=hF.2.2.1 hnd;have H8x:=yD H8.out hb L8.out;have s4:=dN x b8 (U O me) (J o1 n1 k1) (J o2 n2 k2) (J o3 n3 k3) (J o4 n4 k4) (J o5 n5 k5);have d8:D 8:=hD ⟨8,.chain⟩ (by simp) rfl;have n10:¬ D 10:=fun h=>hnd (hc 10 _ h rfl ⟨9,.chain⟩ (by simp) rfl);have hx:=dL H8x (U O me) (J o1 n1 k1) (J o2 n2 k2) (J o3 n3 k3) (J o4 n4 k4) (J o5 n5 k5);have hy:∀ B,B<=b8->Below B W (gV x b8 (U O me) (J o1 n1 k1) (J o2 n2 k2) (J o3 n3 k3) (J o4 n4 k4) (J o5 n5 k5)):=fun B hB=>dH (hb.mono (bS (bg hB L8.out))) hB _ _ _ _ _ _;have hs:=oD H8x me o1 o2 o3 o4 o5 n1 k1 n2 k2 n3 k3 n4 k4 n5 k5;have so:∀ v l,jX x F0 v l->jX (gV x b8 (U O me) (J o1 n1 k1) (J o2 n2 k2) (J o3 n3 k3) (J o4 n4 k4) (J o5 n5 k5)) F0 v l:=fun v l h=>gy h b8 L8.out _ _ _ _ _ _;generalize gV x b8 (U O me) (J o1 n1 k1) (J o2 n2 k2) (J o3 n3 k3) (J o4 n4 k4) (J o5 n5 k5)=x2 at *;have ff:dF W F0 b4 b5 b6 b8 #[U O me,J o1 n1 k1,J o2 n2 k2,J o3 n3 k3,J o4 n4 k4,J o5 n5 k5] c d c2 d2 (fun j=>j=9\/D j) x2:=⟨⟨(s4 b4 N4.out).trans hF.1.1,(s4 b5 N5.out).trans hF.1.2.1,(s4 b6 N6.out).trans hF.1.2.2⟩,fun h=>absurd (aD d8) h,fun h=>absurd (aT rfl) h,fun _=>⟨hx,fun j hj hne=>(s4 j hne).trans (hb.block j hj),hy⟩⟩;have st:∀ j u,j<11->D j->¬ D ((fun i=>if i=7 then 8 else 11) j)->j≠9->dV W.heap.size F0 (aR #[U O me,J o1 n1 k1,J o2 n2 k2,J o3 n3 k3,J o4 n4 k4,J o5 n5 k5]) rv jh c d c2 d2 lo j u x->dV W.heap.size F0 (aR #[U O me,J o1 n1 k1,J o2 n2 k2,J o3 n3 k3,J o4 n4 k4,J o5 n5 k5]) rv jh c d c2 d2 lo j u x2:=fun j u hj dj nl ni h=>by
    rcases (by omega:j=0\/j=1\/j=2\/j=3\/j=4\/j=5\/j=6\/j=7\/j=8\/j=9\/j=10) with rfl|rfl|rfl|rfl|rfl|rfl|rfl|rfl|rfl|rfl|rfl
    ·exact h
    ·exact h
    ·exact h
    ·exact h
    ·exact h
    ·exact h
    ·exact h
    ·exact absurd d8 nl
    ·obtain⟨s,h1,h2⟩:=h;exact⟨s,h1,so _ _ h2⟩
    ·exact h
    ·exact absurd dj n10
   have q:=hK (aZ true) x2 trivial ff fun j u hj dj nl _ ni h=>st j u hj dj nl ni h;have q2:K a x2:=q;exact Rg.gu 30 (ak 8) (ak 50) rfl rfl rfl rfl e8 e50 hs q2
  ·cases ho;obtain⟨sl,h58,o58⟩:∃ sl:Sl,a.eval (ak 58)=dX sl/\jX x F0 (a.eval (ak 58)) (lo++[(jh,4,c,d,c2,d2,(X,0,0),(X,0,0))]):=seen.at_ ⟨8,.data⟩ (by simp) rfl (aD (by decide)) _ rfl;exact aI rfl rfl (cZ a.eval _ (ak 58) rfl x) (hK _ _ ⟨sl,h58,o58⟩ (still 10 (by decide) (by decide)) fun _ _ _ _ _ _ _ h=>h)
 ·intro a x df sz kp ⟨vs,hv⟩ ⟨D,hall,hF⟩;obtain⟨sl,h1,h2⟩:=(hv 10 (by omega)).2 (by decide);have g9:a.tmps[9]?=V (dX sl):=by
   rw [<- h1];exact (hv 10 (by omega)).1 9 rfl
  obtain⟨e1,e2,e3⟩:=hF.2.2.2 (hall 9 (by omega));rw [h1] at h2;exact HQ.out a x sl df ((kp 8 (nd 8 (by decide))).trans rfl) g9 e1 h2 e2 e3
theorem Hg {W W':aA} {k:Nat} {me:Int} {s1 s2 s3 s4 s5:Sl} {v:aB} {l:List jk} {m:List En} (h1:mh W v l) (h2:eY (jJ W) l m) (hb:dK W k (ko me s1 s2 s3 s4 s5) 30) (hk:∀ j,j<W.heap.size->j≠k->W'.heap[j]?=W.heap[j]?):mh W' v l/\eY (jJ W') l m :=
 ⟨jv mM h1 hk (lS hb (fun _=>⟨_,_,rfl,rfl⟩) (nI me s1 s2 s3 s4 s5)),h2.mono fun _ _ hx=>⟨hx.1,hx.2.1,hx.2.2.1,hx.2.2.2.1,jv wF hx.2.2.2.2 hk (tF hb (tH me s1 s2 s3 s4 s5))⟩⟩
theorem iT {W W':aA} {k:Nat} {me:Int} {s1 s2 s3 s4 s5:Sl} {s:Sl} {m:List Ou} (h:kG W s m) (hb:dK W k (ko me s1 s2 s3 s4 s5) 30) (hk:∀ j,j<W.heap.size->j≠k->W'.heap[j]?=W.heap[j]?):kG W' s m:=by
 obtain⟨xs,h1,h2⟩:=h;exact⟨xs,jv Ew h1 hk (lS hb (fun c=>⟨_,_,rfl,rfl⟩) (nI me s1 s2 s3 s4 s5)),h2.mono fun x a hx=>⟨hx.1,hx.2.1,hx.2.2.1,hx.2.2.2.1,jv wF hx.2.2.2.2.1 hk (tF hb (tH me s1 s2 s3 s4 s5)),hx.2.2.2.2.2⟩⟩
theorem jR (b:Br) (t x:Id) (f:Int):(jI b t x f).1=(takeB b t x f).1:=by
 unfold jI
 split
 ·rfl
 ·split <;> rfl
theorem acI {W:aA} {l:List jk} {m:List En} (t:Int) (h:eY (jJ W) l m):eY (uI W) (l.map (OQ t)) (m.map (qJ t)):=by
 induction h with
 | nil=>exact .nil
 | cons x _ ih=>exact .cons (ah5 x t) ih
theorem Hl (b:Br) (nv av sv ev ov:Sl) (x s:Id) (f:Int) (w:aA) (h:jq w b nv av sv ev ov) (l2:b.dO.length<=900) (l3:b.ent.length<=900) (hok:∀ e∈b.ent,dR e.p) (hkn:∀ e∈b.ent,e.tree∈b.dO.map Ad.id) :
  bI au 59 #[mG b.me nv av sv ev ov,nC x,nC s,U O f] w fun e w'=>(∃ ev' lo:Sl,e=aL (.tuple #[mG b.me nv av sv ev' ov,dX lo])/\jq w' (jI b x s f).1 nv av sv ev' ov/\kG w' lo (jI b x s f).2)/\Below w.heap.size w w':=by
 obtain⟨no,nn,nc⟩:=nv;obtain⟨ao,an,ac⟩:=av;obtain⟨so,sn,sc⟩:=sv;obtain⟨eo,en,ec⟩:=ev;obtain⟨oo,eG,oc⟩:=ov;obtain⟨c,d⟩:=x;obtain⟨c2,d2⟩:=s;have TK:=L (fun W hb'=>Ur b (no,nn,nc) (ao,an,ac) (so,sn,sc) (eo,en,ec) (oo,eG,oc) (c,d) (c2,d2) f W (h.on (show Below w.heap.size w W from hb')) l3 hok);have yS:=L h.near;have L2:=L l2;have L3:=L l3;have KN:=L hkn;obtain⟨h0,h1,h2,h3,h4⟩:=vG w #[U O b.me,J no nn nc,J ao an ac,J so sn sc,J eo en ec,J oo eG oc] #[U O c,U O d] #[U O c2,U O d2] #[U O 0,J X 0 0,J X 0 0,J X 0 0,J X 0 0,J X 0 0] 30 23 23 30;obtain⟨me,hme⟩:∃ me,me=b.me:=⟨_,rfl⟩;simp only [<- hme] at h0 h1 h2 h3 h4 TK ⊢;have gG:=L (h0);have zB:=L (h1);have mQ:=L (h2);have nJ:=L (h3);have zC:=L (h4);clear h0 h1 h2 h3 h4 h l2 l3 hme hok hkn;go_enter Tryz.func59,Tryz.ntmps59;go_upto_region 1 with fail;generalize ((((w.alloc (ay #[U O me,J no nn nc,J ao an ac,J so sn sc,J eo en ec,J oo eG oc] 30)).alloc (ay #[U O c,U O d] 23)).alloc (ay #[U O c2,U O d2] 23)).alloc (ay #[U O 0,J X 0 0,J X 0 0,J X 0 0,J X 0 0,J X 0 0] 30))=W at *;have SW:=L (TK.out W gG.out);clear TK;obtain⟨x0,x1,x2,x3,x4,x5⟩:=zB.out.fD;obtain⟨y0,y1⟩:=mQ.out.cs2;obtain⟨z0,z1⟩:=nJ.out.cs2;go_wp2_with fail;refine SW.out.mono ?_;rintro e1 w1 ⟨⟨⟨ea,jd,je⟩,⟨la,ln,lc⟩,rfl,hbr,xs,hrow,hall⟩,hb⟩;clear SW;clear x0 x1 x2 x3 x4 x5 y0 y1 z0 z1;obtain⟨fb,OX⟩:∃ r,(takeB b (c,d) (c2,d2) f).2.2=r:=⟨_,rfl⟩;have LB:=L OX;rw [OX];obtain⟨qa,qc,hq⟩:=hrow.len;obtain rfl:ln=xs.length:=by simpa using congrArg (fun v=>match v with|Value.slice _ n _=>n|_=>0) hq
 obtain⟨ln,hln⟩:∃ n,n=xs.length:=⟨_,rfl⟩;simp only [<- hln] at hrow ⊢;have LN:=L hln.symm;clear hln hq;have ji:=L (gG.out.trans (hb.mono gG.out.size));have pY:=L (zB.out.on hb);have AJ:=L (mQ.out.on hb);have Jk:=L (nJ.out.on hb);have Jl:=L (zC.out.on hb);clear gG zB mQ nJ zC;obtain⟨k0,k1,k2,k3,k4,k5⟩:=pY.out.fD;obtain⟨oP,oQ,oU,oW,oZ,o7⟩:=pY.out.kK;have zz:=pY.out.lt;have FB:=L (dL pY.out (U O me) (J no nn nc) (J ao an ac) (J so sn sc) (J ea jd je) (J oo eG oc));have B2:=L (dH (b:=w.heap.size) ji.out (aJ _) (U O me) (J no nn nc) (J ao an ac) (J so sn sc) (J ea jd je) (J oo eG oc));have F5:=L (show dK _ _ _ _ from (dN w1 w.heap.size (U O me) (J no nn nc) (J ao an ac) (J so sn sc) (J ea jd je) (J oo eG oc) (w.heap.size+1) (by omega)).trans AJ.out);have F6:=L (show dK _ _ _ _ from (dN w1 w.heap.size (U O me) (J no nn nc) (J ao an ac) (J so sn sc) (J ea jd je) (J oo eG oc) (w.heap.size+1+1) (by omega)).trans Jk.out);have F8:=L (show dK _ _ _ _ from (dN w1 w.heap.size (U O me) (J no nn nc) (J ao an ac) (J so sn sc) (J ea jd je) (J oo eG oc) (w.heap.size+1+1+1) (by omega)).trans Jl.out);have HB:=L (fK (s1:=(no,nn,nc)) (s2:=(ao,an,ac)) (s3:=(so,sn,sc)) (s4:=(eo,en,ec)) (s5:=(oo,eG,oc)) hbr pY.out (fun j _ hj=>dN w1 w.heap.size (U O me) (J no nn nc) (J ao an ac) (J so sn sc) (J ea jd je) (J oo eG oc) j hj) (by rw [(jP b (c,d) (c2,d2) f).2.1]; exact yS.out.on B2.out));have HX:=L (Hg (s1:=(no,nn,nc)) (s2:=(ao,an,ac)) (s3:=(so,sn,sc)) (s4:=(eo,en,ec)) (s5:=(oo,eG,oc)) hrow hall pY.out (fun j _ hj=>dN w1 w.heap.size (U O me) (J no nn nc) (J ao an ac) (J so sn sc) (J ea jd je) (J oo eG oc) j hj));clear OX hbr hb hrow hall ji pY AJ Jk Jl;go_upto_region 2 with fail;clear zz k0 k1 k2 k3 k4 k5 oP oQ oU oW oZ o7;unfold gV at FB B2 F5 F6 F8 HB HX;generalize ((((((w1.setCell ⟨w.heap.size,0,X⟩ (U O me)).setCell ⟨w.heap.size,1,X⟩ (J no nn nc)).setCell ⟨w.heap.size,2,X⟩ (J ao an ac)).setCell ⟨w.heap.size,3,X⟩ (J so sn sc)).setCell ⟨w.heap.size,4,X⟩ (J ea jd je)).setCell ⟨w.heap.size,5,X⟩ (J oo eG oc))=w2 at *;have lU:=L (B2.out);have xD:=L (FB.out);have acJ:=L (F5.out);have Lh:=L (F6.out);have Dh:=L (F8.out);clear B2 FB F5 F6 F8;cases fb
 ·have x0:=xD.out.cell 0;have x1:=xD.out.cell 1;have x2:=xD.out.cell 2;have x3:=xD.out.cell 3;have x4:=xD.out.cell 4;have x5:=xD.out.cell 5;simp only [aF,aM,aN] at x0 x1 x2 x3 x4 x5;obtain⟨r0,r1,r2,r3,r4,r5⟩:=Dh.out.fD;obtain⟨zW,zX,zY,zZ,z8,Aa⟩:=Dh.out.kK;have zz:=Dh.out.lt;have GG:=L (dL Dh.out (U O me) (J no nn nc) (J ao an ac) (J so sn sc) (J ea jd je) (J oo eG oc));have BL:=L (dH (b:=w.heap.size+1+1+1) lU.out (by omega) (U O me) (J no nn nc) (J ao an ac) (J so sn sc) (J ea jd je) (J oo eG oc));have HC:=L (fK (s1:=(X,0,0)) (s2:=(X,0,0)) (s3:=(X,0,0)) (s4:=(X,0,0)) (s5:=(X,0,0)) HB.out Dh.out (fun j _ hj=>dN w2 (w.heap.size+1+1+1) (U O me) (J no nn nc) (J ao an ac) (J so sn sc) (J ea jd je) (J oo eG oc) j hj) (by rw [(jP b (c,d) (c2,d2) f).2.1]; exact yS.out.on BL.out));clear HB HX;go_wp2_with fail;obtain⟨T,a6,a7,a8,aE,b9⟩:=GG.out.fD;refine bodyPost_ret (v:=.tuple #[aR #[U O me,J no nn nc,J ao an ac,J so sn sc,J ea jd je,J oo eG oc],J X 0 0]) (by simp [results,bL,go_sem,T,a6,a7,a8,aE,b9]) rfl ?_;have hd:jI b (c,d) (c2,d2) f=((takeB b (c,d) (c2,d2) f).1,[]):=by unfold jI; rw [if_pos LB.out]
  rw [hd];exact⟨⟨(ea,jd,je),(X,0,0),rfl,HC.out,sw _⟩,BL.out⟩
 ·obtain⟨e0,he0,ht0⟩:=Df LB.out;have hmem:(c,d)∈b.dO.map Ad.id:=ht0 ▸ KN.out e0 he0;obtain⟨k,hk1,hk2⟩:=GV _ _ hmem;rw [aH] at hk2;obtain⟨a,hak⟩:∃ a,b.dO[k]?=V a:=by
   cases h:b.dO[k]? with
   | none=>rw [h] at hk2; cases hk2
   | some a=>exact⟨a,rfl⟩
  have DB:=L (show jI b (c,d) (c2,d2) f=((takeB b (c,d) (c2,d2) f).1,(takeB b (c,d) (c2,d2) f).2.1.map (qJ a.par)++[⟨a.par,4,(c,d),(c2,d2),[]⟩]) from by
   unfold jI;rw [if_neg (by rw [LB.out]; simp),hk1,aQ,hak])
  clear hk2 hmem he0 ht0 e0;obtain⟨ad,AO,yE⟩:=HB.out.dO;rw [(jP b (c,d) (c2,d2) f).1] at yE;obtain⟨z,hz1,hz2⟩:=yE.at k a hak;have FD:=vV me (J no nn nc) (J ea jd je) (J so sn sc) (J oo eG oc) (ao,an,ac) ad (c,d);rw [Cc yE,hk1] at FD;obtain⟨q1,q2,hq⟩:=AO.len;obtain⟨rfl,rfl,rfl⟩:ao=q1/\an=ad.length/\ac=q2:=by
   have:J ao an ac=J q1 ad.length q2:=hq;simpa using this
  obtain⟨p,ix,px⟩:=NK AO rfl rfl hz1;obtain⟨p0,p1,p2,p3⟩:=px w2 (ah _ _);obtain⟨z1,z2,⟨z3,z4,z5⟩,z6⟩:=z;simp only at p0 p1 p2 p3;obtain rfl:z6=a.par:=hz2.2.1;have CE:=L (fun d os=>Calls.regrown_of (d:=d) (os:=os) (FD _ (AO.on (below_regrown w2 d os))));obtain⟨an,han⟩:∃ n,n=ad.length:=⟨_,rfl⟩;clear FD hq px p0 p1 p2;have q3:=cell_regrown p3;simp only [<- han] at ix CE xD HB;have HAN:=L han;clear han hz2 hak hk1 yE AO hz1 p3;have a0:=cell_regrown (show w2.cell? ⟨w.heap.size,0,X⟩=V (U O me) from xD.out.cell 0);have a1:=cell_regrown (show w2.cell? ⟨w.heap.size,1,X⟩=V (J no nn nc) from xD.out.cell 1);have a2:=cell_regrown (show w2.cell? ⟨w.heap.size,2,X⟩=V (J ao an ac) from xD.out.cell 2);have a3:=cell_regrown (show w2.cell? ⟨w.heap.size,3,X⟩=V (J so sn sc) from xD.out.cell 3);have a4:=cell_regrown (show w2.cell? ⟨w.heap.size,4,X⟩=V (J ea jd je) from xD.out.cell 4);have a5:=cell_regrown (show w2.cell? ⟨w.heap.size,5,X⟩=V (J oo eG oc) from xD.out.cell 5);have b0:=cell_regrown (show w2.cell? ⟨w.heap.size+1,0,X⟩=V (U O c) from acJ.out.cell 0);have b1:=cell_regrown (show w2.cell? ⟨w.heap.size+1,1,X⟩=V (U O d) from acJ.out.cell 1);go_upto_region 4 with fail;refine wp_region_quiet_below (by kernel_rfl) (by kernel_rfl) ?_
  repeat (go_big_quiet_step (first | (with_reducible exact CE.out _ _)))
  refine wpQuiet_nil ?_;intro _ hw';obtain⟨⟨dq,osq⟩,hw''⟩:=hw';subst hw'';have Z6:=below_regrown w2 dq osq;have HB2:=L (HB.out.on Z6);have HX2:=L (show mh _ _ _/\eY (jJ _) _ _ from ⟨HX.out.1.on Z6,HX.out.2.mono fun _ _ h=>h.on Z6⟩);have QM:=L (lU.out.trans (Z6.mono lU.out.size));have adX:=L (xD.out.on Z6);have adY:=L (acJ.out.on Z6);have adZ:=L (Lh.out.on Z6);have qX:=L (Dh.out.on Z6);clear lU xD acJ Lh Dh;clear Z6 HB HX CE ix q3 a0 a1 a2 a3 a4 a5 b0 b1;generalize grow (redrawn w2 dq) osq=w3 at *;generalize a.par=jh at *;go_wp2_with fail
  go_loopw [13,38] (fun v i wr=>∃ k:Nat,k<=ln/\i=U O k/\Below w3.heap.size w3 wr/\jX wr w3.heap.size v ((xs.take k).map (OQ jh))) (fun _ i _=>ln-(intOf i).toNat)
  case atStart=>exact⟨0,aO _,rfl,ah _ _,iO _ _⟩
  case round =>
   obtain⟨k,hk,rfl,hbe,hown⟩:=hrel;have BE:=L hbe;have OE:=L hown;clear hbe hown;have L9:=L (show ln<=900 from by have h1:=HX2.out.2.len; rw [LN.out] at h1; rw [h1]; exact aC (qw b (c,d) (c2,d2) f).2 L3.out);have l9:=L9.out;by_cases hlt:k<ln
   ·have hlt':(k:Int)<(ln:Int):=by omega
    have hw:IntKind.i64.wrap ((k:Int)+1)=(k:Int)+1:=IntWalk.i64_in _ (by omega);obtain⟨y,hy⟩:∃ y,xs[k]?=V y:=⟨_,aj (by rw [LN.out]; exact hlt)⟩;obtain⟨p,ix,px⟩:=P8 HX2.out.1 rfl LN.out hy;obtain⟨p0,p1,p2,p3,p4,p5,p6⟩:=px wr BE.out;have TKY:=L (show (xs.take (k+1)).map (OQ jh)=(xs.take k).map (OQ jh)++[OQ jh y] from by rw [bG,hy]; simp);obtain⟨y1,y2,y3,y4,⟨yo,yn,yc⟩,y6,y7⟩:=y;simp only at p0 p1 p2 p3 p4 p5 p6;clear px hy;go_upto_region 9 with fail;clear p0 p1 p2 p3 p4 p5 p6 ix;have NN:=gN wr (ay #[U O y1,U O y2,U O y3,U O y4,J yo yn yc,U O y6,aZ y7] 67);have XE:=dQ wr #[U O y1,U O y2,U O y3,U O y4,J yo yn yc,U O y6,aZ y7] 67;have Ym:=L (BE.out.trans (NN.mono BE.out.size));have TM:=L (Bk.dI OE.out NN);clear BE OE NN;generalize wr.alloc (ay #[U O y1,U O y2,U O y3,U O y4,J yo yn yc,U O y6,aZ y7] 67)=wa at *;obtain⟨c0_,c1_,c2_,c3_,c4_,c5_,c6_⟩:=XE.pG;have SB:=Bh (y1,y2,y3,y4,(yo,yn,yc),y6,y7) wa;go_wp2_with fail;refine SB.mono ?_;rintro e3 wb ⟨rfl,hb⟩;clear SB XE c0_ c1_ c2_ c3_ c4_ c5_ c6_;have BE3:=L (Ym.out.trans (hb.mono Ym.out.size));have OE3:=L (Bk.dI TM.out hb);clear hb Ym TM;have hl:=jC Ew wb [((jh,3,y1,y2,y3,y4,(yo,yn,yc),(X,0,0)):mX)] 1 rfl (by simp) #[U O jh,U O 3,U O y1,U O y2,U O y3,U O y4,J yo yn yc,J X 0 0] (by rfl);have NB:=gN wb (ay #[U O jh,U O 3,U O y1,U O y2,U O y3,U O y4,J yo yn yc,J X 0 0] 46);obtain⟨v',x5,q2,o2,g2⟩:=gZ Ew w3.heap.size (Bk.dI OE3.out NB) (Row.dJ hl) (by rw [aG,bH]; omega) (by simp) (aC BE3.out.size NB.size) 37;have q2:(aP #[37,37] 37 #[u13,J (V ⟨wb.heap.size,0,X⟩) 1 1]).run au (wb.alloc (ay #[U O jh,U O 3,U O y1,U O y2,U O y3,U O y4,J yo yn yc,J X 0 0] 46))=.ok v' x5:=q2;have BX:=L ((BE3.out.trans (NB.mono BE3.out.size)).grown g2 (aC BE3.out.size NB.size) (fun j hj=>((Bk.dI OE3.out NB).lt j hj).1));have O2:=L o2;clear hl NB o2 g2;go_wp2_with (first | (at_builtin; refine wpList_append_run rfl _ _ 37 rfl rfl rfl q2 ?_) | fail)
    go_roundw
    case rel=>exact⟨k+1,hlt,by go_num,BX.out,by rw [TKY.out]; exact O2.out⟩
    case measure=>simp [intOf]; omega
   ·obtain rfl:k=ln:=by omega
    have ht:xs.take k=xs:=List.take_of_length_le (by rw [LN.out]; exact aJ _);rw [ht] at OE;clear ht;go_upto_region 11 with fail;refine Yl _ wr w3.heap.size w.heap.size (w.heap.size+1) (w.heap.size+1+1) (w.heap.size+1+1+1) me jh c d c2 d2 no ao so ea oo nn nc an ac sn sc jd je eG oc u13 (xs.map (OQ jh)) _ _ _ _ _ _ _ _ _ _ _ _ _ _ _ _ _ _ _ _ _ _ _ _ _ _ _ _ _ _ _ _ _ _ _ _ _ _ _ _ _ _ _ _ _ _ _ _ _ _ _ _ _ _ _ _ _ _ _ (adX.out.on BE.out) (adY.out.on BE.out) (adZ.out.on BE.out) (qX.out.on BE.out) adX.out.lt adY.out.lt adZ.out.lt qX.out.lt (by omega) (by omega) (by omega) BE.out.size OE.out (by rw [aG,LN.out]; omega) ?_;intro a9 x9 sl Kz h69 h79 hbx ho hblk hbl;have BL:=L (show Below w.heap.size w x9 from (QM.out.trans (BE.out.mono QM.out.size)).trans (hbl w.heap.size (by omega)));have HK:=L (show ∀ j,j<w3.heap.size->j≠w.heap.size+1+1+1->x9.heap[j]?=w3.heap[j]? from fun j hj hne=>(hblk j hj hne).trans (BE.out.block j hj));have HC:=L (fK (s1:=(X,0,0)) (s2:=(X,0,0)) (s3:=(X,0,0)) (s4:=(X,0,0)) (s5:=(X,0,0)) HB2.out qX.out HK.out (by rw [(jP b (c,d) (c2,d2) f).2.1]; exact yS.out.on BL.out));have HX3:=L (Hg (s1:=(X,0,0)) (s2:=(X,0,0)) (s3:=(X,0,0)) (s4:=(X,0,0)) (s5:=(X,0,0)) HX2.out.1 HX2.out.2 qX.out HK.out);have HU:=L (Row.dJ ho);obtain⟨T,a6,a7,a8,aE,b9⟩:=hbx.fD;clear hbx ho hblk hbl HB2 HX2 BE OE;simp only [Exit.then]
    apply_assumption
    go_wp2_with fail;refine bodyPost_ret (v:=.tuple #[aR #[U O me,J no nn nc,J ao an ac,J so sn sc,J ea jd je,J oo eG oc],dX sl]) (by simp [results,bL,go_sem,h69,h79,T,a6,a7,a8,aE,b9]) Kz ?_;have h9:=HAN.out;subst h9;rw [DB.out];exact⟨⟨(ea,jd,je),sl,rfl,HC.out,_,HU.out,(acI jh HX3.out.2).append (.cons ⟨rfl,rfl,rfl,rfl,jo _,rfl⟩ .nil)⟩,BL.out⟩
theorem sD {α:Type} {E:Ek α} (K:E.Ok) {w:aA} (B:Nat) {v x:aB} {l m:List α} (hown:Own E w B v l) (hx:Row E w x m) (hn:l.length<=1000000) (hm:m.length<=1000000) (hB:B<=w.heap.size) (ty:TypeId) :
  ∃ v' w',(aP #[E.ts,E.ts] ty #[v,x]).run au w=.ok v' w'/\Own E w' B v' (l++m)/\w.grownBy w' v.ownBlock:=by
 obtain⟨i,i1,i2,i3,i4⟩:=K.info;rcases hx with⟨rfl,rfl⟩|⟨ad,c,rfl,h2,h3,h4⟩
 ·exact⟨v,w,run_append_owned_none (P:=au) (w:=w) B E.ts ty E.t i E.n K.hu i1 v _ _ hown,by simpa using hown,tq _ _⟩
 ·have hf:=K.few;obtain⟨v',w',r1,r2,r3,_⟩:=run_append_own (P:=au) w B E.ts ty E.t i E.z E.n E.bytes K.hu i1 i2 i3 i4 K.zs K.pos v _ _ hown ad m.length c (flat E m) (eD K m) h4 (nR K m) (by unfold maxLen; omega)
   (aC (aW (show l.length+m.length<=2000000 by omega) hf) (by decide)) hB
  exact⟨v',w',r1,by rw [Own,aK,gK]; exact r2,r3⟩
def Jm (B:Nat) (_ _:Nat) (me:Int) (o1 o2 o3 o4 o5:Option bN) (n1 k1 n2 k2 n3 k3 n4 k4 n5 k5:Nat) (so jh:Option bN) (sn sc tn tc:Nat) (lo ls:List mX) (_ _ _ _ _ _:aB) (i:Nat) (v:aB) (x:aA):Prop :=
 match i with
 | 0=>v=aR #[U O me,J o1 n1 k1,J o2 n2 k2,J o3 n3 k3,J o4 n4 k4,J o5 n5 k5]
 | 1=>jX x B v []
 | 2=>v=J so sn sc
 | 3=>jX x B v lo
 | 4=>v=J jh tn tc
 | 5=>jX x B v (lo++ls)
 | _=>True
noncomputable def Yn:Code:=((Tryz.f18.body.bind (eO 16)).getD .skip)
theorem UA (B:Nat) (b2 b12:Nat) (me:Int) (o1 o2 o3 o4 o5:Option bN) (n1 k1 n2 k2 n3 k3 n4 k4 n5 k5:Nat) (so jh:Option bN) (sn sc tn tc:Nat) (lo ls:List mX) (z0 z1 z2 z3 z4 z5:aB) (i:Nat) (v:aB) (x x':aA) (h:Jm B b2 b12 me o1 o2 o3 o4 o5 n1 k1 n2 k2 n3 k3 n4 k4 n5 k5 so jh sn sc tn tc lo ls z0 z1 z2 z3 z4 z5 i v x) (hb:Below x.heap.size x x'):Jm B b2 b12 me o1 o2 o3 o4 o5 n1 k1 n2 k2 n3 k3 n4 k4 n5 k5 so jh sn sc tn tc lo ls z0 z1 z2 z3 z4 z5 i v x':=by
 by_cases hi:i<6
 ·rcases (by omega:i=0\/i=1\/i=2\/i=3\/i=4\/i=5) with rfl|rfl|rfl|rfl|rfl|rfl
  ·exact h
  ·exact dI h hb
  ·exact h
  ·exact dI h hb
  ·exact h
  ·exact dI h hb
 ·unfold Jm
  split <;> first | omega | trivial
theorem aj4 (Q:Exit->Act->aA->Prop) (W:aA) (b2 b12:Nat) (me:Int) (o1 o2 o3 o4 o5:Option bN) (n1 k1 n2 k2 n3 k3 n4 k4 n5 k5:Nat) (so jh:Option bN) (sn sc tn tc:Nat) (lo ls:List mX) (z0 z1 z2 z3 z4 z5:aB) (T a0 a3 a4 a5 a6 a7 a8 aE b9 bJ bQ c7 c8 c9 cA cC cD cF cG cH cI cJ cL cM cN cP cQ cR cS cT cU cV cW cX cY d1 d4 d5 d7 d9 dA dC dE dS dT e7 eA eB eC eK eL eM eN eQ eS eE eI eJ:aB)
  (h2:dK W b2 #[z0,z1,z2,z3,z4,z5] 30) (h12:dK W b12 #[U O me,J o1 n1 k1,J o2 n2 k2,J o3 n3 k3,J o4 n4 k4,J o5 n5 k5] 30) (xJ:TP W (J so sn sc) lo) (rls:TP W (J jh tn tc) ls) (l9:lo.length<=1000000) (s9:ls.length<=1000000)
  (hQ:∀ (x:aA) (w9:aB) (eV eW f0 f7 f8 f9:aB),dK x b2 #[U O me,J o1 n1 k1,J o2 n2 k2,J o3 n3 k3,J o4 n4 k4,J o5 n5 k5] 30->jX x W.heap.size w9 (lo++ls)->(∀ j,j<W.heap.size->j≠b2->x.heap[j]?=W.heap[j]?)->(∀ B,B<=b2->Below B W x)->Q .normal ⟨(T::a0::Y (V ⟨b2,0,X⟩)::a3::a4::a5::a6::a7::a8::w9::aE::b9::Y (V ⟨b12,0,X⟩)::J jh tn tc::bJ::bQ::c7::c8::c9::cA::cC::cD::cF::cG::cH::cI::cJ::cL::cM::cN::cP::cQ::cR::cS::cT::cU::cV::cW::cX::cY::d1::d4::d5::d7::d9::dA::dC::dE::dS::dT::e7::eA::eB::eC::eV::eW::f0::f7::f8::f9::eE::eI::eJ::[]).toArray,[]⟩ x) :
  Code.wp au Yn Q ⟨(T::a0::Y (V ⟨b2,0,X⟩)::a3::a4::a5::a6::a7::a8::J so sn sc::aE::b9::Y (V ⟨b12,0,X⟩)::J jh tn tc::bJ::bQ::c7::c8::c9::cA::cC::cD::cF::cG::cH::cI::cJ::cL::cM::cN::cP::cQ::cR::cS::cT::cU::cV::cW::cX::cY::d1::d4::d5::d7::d9::dA::dC::dE::dS::dT::e7::eA::eB::eC::eK::eL::eM::eN::eQ::eS::eE::eI::eJ::[]).toArray,[]⟩ W:=by
 have HQ:=L hQ;have H2:=L h2;have H12:=L h12;have RLO:=L xJ;have RLS:=L rls;have LO:=L l9;have LS:=L s9;clear hQ h2 h12 xJ rls l9 s9;have jW:=UA W.heap.size b2 b12 me o1 o2 o3 o4 o5 n1 k1 n2 k2 n3 k3 n4 k4 n5 k5 so jh sn sc tn tc lo ls z0 z1 z2 z3 z4 z5;unfold Yn
 conv=>arg 2; whnf
 have nd:∀ j,(∀ i,i<6->[54,55,56,57,58,59].getD i 0≠j)->∀ i,i<6->(fun i=>[54,55,56,57,58,59].getD i 0) i≠j:=fun j h=>h;refine Rg.gU 8 6 (fun i=>[54,55,56,57,58,59].getD i 0) (fun i=>if i=1 then 3 else if i=3 then 5 else 6) (Jm W.heap.size b2 b12 me o1 o2 o3 o4 o5 n1 k1 n2 k2 n3 k3 n4 k4 n5 k5 so jh sn sc tn tc lo ls z0 z1 z2 z3 z4 z5) (by kernel_rfl) (by kernel_rfl) rfl (by decide) (fun i j hi hj h=>(by decide:∀ i,i<6->∀ j,j<6->[54,55,56,57,58,59].getD i 0=[54,55,56,57,58,59].getD j 0->i=j) i hi j hj h) (fun i hi=>(by decide:∀ i,i<6->[54,55,56,57,58,59].getD i 0<63) i hi) ?_ (fun _=>Rg.kL 14 (by kernel_rfl)) ?_ ?_
 ·intro i o hi ho a x D hnd hc hD hb seen K hK;clear HQ;rcases (by omega:i=0\/i=1\/i=2\/i=3\/i=4\/i=5) with rfl|rfl|rfl|rfl|rfl|rfl
  ·cases ho;have e12:a.eval (ak 12)=Y (V ⟨b12,0,X⟩):=seen.kp 12 _ (nd 12 (by decide)) rfl;obtain⟨y0,y1,y2,y3,y4,y5⟩:=(H12.out.on hb).fD;exact aI rfl rfl (bW a.eval _ 30 (ak 12) rfl (by rw [e12]; simp [go_sem,y0,y1,y2,y3,y4,y5])) (hK _ _ rfl (ah _ _) fun _ _ _ _ _ _ _ h=>h)
  ·cases ho;have nb:=gN x (ay #[] 46);have hl:=rU (B':=W.heap.size) hb.size (JN (E:=EU) x);exact aI rfl rfl (cO a.eval _ 37 0 #[] rfl rfl (by simp [go_sem])) (hK (J (V ⟨x.heap.size,0,X⟩) 0 0) (x.alloc (ay #[] 46)) hl (nb.mono hb.size) fun j u _ _ _ _ _ h=>jW j u _ _ h nb)
  ·cases ho;have e9:a.eval (ak 9)=J so sn sc:=seen.kp 9 _ (nd 9 (by decide)) rfl;exact aI rfl rfl (bZ a.eval _ (ak 9) rfl x) (hK _ _ e9 (ah _ _) fun _ _ _ _ _ _ _ h=>h)
  ·cases ho;have E55:=seen.at_ ⟨1,.data⟩ (by simp) rfl (aT rfl);have e56:a.eval (ak 56)=J so sn sc:=seen.at_ ⟨2,.data⟩ (by simp) rfl (aD (by decide));have o55:jX x W.heap.size (a.eval (ak 55)) []:=E55;obtain⟨v',x',r,o',gr⟩:=sD Ew W.heap.size o55 (RLO.out.on hb) (by simp) LO.out hb.size 37;have o'':jX x' W.heap.size v' lo:=by simpa using o'
   exact aI rfl rfl (cu a.eval _ (ak 55) (ak 56) 37 rfl rfl e56 r) (hK v' x' o'' ((ah _ x).grown gr hb.size fun j hj=>(o55.lt j hj).1) fun j u hj dj nl nx ni h=>by
    rcases (by omega:j=0\/j=1\/j=2\/j=3\/j=4\/j=5) with rfl|rfl|rfl|rfl|rfl|rfl
    ·exact h
    ·exact absurd rfl nx
    ·exact h
    ·exact absurd rfl ni
    ·exact h
    ·exact absurd (hc 5 _ dj rfl ⟨3,.data⟩ (by simp) rfl) hnd)
  ·cases ho;have e13:a.eval (ak 13)=J jh tn tc:=seen.kp 13 _ (nd 13 (by decide)) rfl;exact aI rfl rfl (bZ a.eval _ (ak 13) rfl x) (hK _ _ e13 (ah _ _) fun _ _ _ _ _ _ _ h=>h)
  ·cases ho;have E57:=seen.at_ ⟨3,.data⟩ (by simp) rfl (aT rfl);have e58:a.eval (ak 58)=J jh tn tc:=seen.at_ ⟨4,.data⟩ (by simp) rfl (aD (by decide));have o57:jX x W.heap.size (a.eval (ak 57)) lo:=E57;obtain⟨v',x',r,o',gr⟩:=sD Ew W.heap.size o57 (RLS.out.on hb) LO.out LS.out hb.size 37;have d3:D 3:=hD ⟨3,.data⟩ (by simp) rfl;exact aI rfl rfl (cu a.eval _ (ak 57) (ak 58) 37 rfl rfl e58 r) (hK v' x' o' ((ah _ x).grown gr hb.size fun j hj=>(o57.lt j hj).1) fun j u hj dj nl nx ni h=>by
    rcases (by omega:j=0\/j=1\/j=2\/j=3\/j=4\/j=5) with rfl|rfl|rfl|rfl|rfl|rfl
    ·exact h
    ·exact absurd d3 nl
    ·exact h
    ·exact absurd rfl nx
    ·exact h
    ·exact absurd rfl ni)
 ·intro kk o h1 h2 ho;rcases (by omega:kk=7) with rfl
  ·cases ho;exact⟨⟨6,.chain⟩,by simp,rfl,rfl⟩
 ·intro a w' df sz kp ⟨vs,hv⟩ hb;have sz':a.tmps.size=63:=sz;have g2:a.tmps[2]?=V (Y (V ⟨b2,0,X⟩)):=(kp 2 (nd 2 (by decide))).trans rfl;have g54:a.tmps[54]?=V (aR #[U O me,J o1 n1 k1,J o2 n2 k2,J o3 n3 k3,J o4 n4 k4,J o5 n5 k5]):=by
   have h:vs 0=aR #[U O me,J o1 n1 k1,J o2 n2 k2,J o3 n3 k3,J o4 n4 k4,J o5 n5 k5]:=(hv 0 (by omega)).2 (by decide);rw [<- h];exact (hv 0 (by omega)).1
  have g59:a.tmps[59]?=V (vs 5):=(hv 5 (by omega)).1;have G59:=(hv 5 (by omega)).2 (by decide);have o59:jX w' W.heap.size (vs 5) (lo++ls):=G59;generalize vs 5=v' at *;have H2x:=H2.out.on hb;have lt2:=H2.out.lt;show cB _ _ _ 2 6 a w';simp only [cB];refine Rg.gu 30 (ak 2) (ak 54) rfl rfl rfl rfl (bX g2) (bX g54) (w':=gV w' b2 (U O me) (J o1 n1 k1) (J o2 n2 k2) (J o3 n3 k3) (J o4 n4 k4) (J o5 n5 k5)) (oD H2x me _ _ _ _ _ _ _ _ _ _ _ _ _ _ _) ?_;refine aI rfl rfl (cZ a.eval _ (ak 59) rfl _) ?_;show Q .normal (a.put (V 9) (a.eval (ak 59))) _;rw [bX g59];have hx:=dL H2x (U O me) (J o1 n1 k1) (J o2 n2 k2) (J o3 n3 k3) (J o4 n4 k4) (J o5 n5 k5);have ho:=gy o59 b2 lt2 (U O me) (J o1 n1 k1) (J o2 n2 k2) (J o3 n3 k3) (J o4 n4 k4) (J o5 n5 k5);have hk:∀ j,j<W.heap.size->j≠b2->(gV w' b2 (U O me) (J o1 n1 k1) (J o2 n2 k2) (J o3 n3 k3) (J o4 n4 k4) (J o5 n5 k5)).heap[j]?=W.heap[j]?:=fun j hj hne=>(dN w' b2 (U O me) (J o1 n1 k1) (J o2 n2 k2) (J o3 n3 k3) (J o4 n4 k4) (J o5 n5 k5) j hne).trans (hb.block j hj);have hbl:∀ B,B<=b2->Below B W (gV w' b2 (U O me) (J o1 n1 k1) (J o2 n2 k2) (J o3 n3 k3) (J o4 n4 k4) (J o5 n5 k5)):=fun B hB=>dH (hb.mono (bS (bg hB lt2))) hB _ _ _ _ _ _;obtain⟨sa,jB,hsv⟩:=(Row.dJ ho).len;generalize gV w' b2 (U O me) (J o1 n1 k1) (J o2 n2 k2) (J o3 n3 k3) (J o4 n4 k4) (J o5 n5 k5)=x2 at *;have ka:∀ j,j≠9->(a.put (V 9) v').tmps[j]?=a.tmps[j]?:=fun j h1=>by rw [bM _ _ _ _ (by omega)]
  have kt:(a.put (V 9) v').tmps[9]?=V (v'):=by simp [aY,sz']
  have rJ:∀ j,(j<54\/60<=j)->(a.put (V 9) v').tmps[j]?=(T::a0::Y (V ⟨b2,0,X⟩)::a3::a4::a5::a6::a7::a8::v'::aE::b9::Y (V ⟨b12,0,X⟩)::J jh tn tc::bJ::bQ::c7::c8::c9::cA::cC::cD::cF::cG::cH::cI::cJ::cL::cM::cN::cP::cQ::cR::cS::cT::cU::cV::cW::cX::cY::d1::d4::d5::d7::d9::dA::dC::dE::dS::dT::e7::eA::eB::eC::eK::eL::eM::eN::eQ::eS::eE::eI::eJ::[])[j]?:=fun j hj=>by
   by_cases hj2:j=9
   ·subst hj2;exact kt
   ·have hs:(T::a0::Y (V ⟨b2,0,X⟩)::a3::a4::a5::a6::a7::a8::v'::aE::b9::Y (V ⟨b12,0,X⟩)::J jh tn tc::bJ::bQ::c7::c8::c9::cA::cC::cD::cF::cG::cH::cI::cJ::cL::cM::cN::cP::cQ::cR::cS::cT::cU::cV::cW::cX::cY::d1::d4::d5::d7::d9::dA::dC::dE::dS::dT::e7::eA::eB::eC::eK::eL::eM::eN::eQ::eS::eE::eI::eJ::[]:List aB)=(T::a0::Y (V ⟨b2,0,X⟩)::a3::a4::a5::a6::a7::a8::J so sn sc::aE::b9::Y (V ⟨b12,0,X⟩)::J jh tn tc::bJ::bQ::c7::c8::c9::cA::cC::cD::cF::cG::cH::cI::cJ::cL::cM::cN::cP::cQ::cR::cS::cT::cU::cV::cW::cX::cY::d1::d4::d5::d7::d9::dA::dC::dE::dS::dT::e7::eA::eB::eC::eK::eL::eM::eN::eQ::eS::eE::eI::eJ::[]).set 9 (v'):=rfl;rw [hs,aX (Ne.symm hj2)];exact (ka j hj2).trans ((kp j (nd j fun i hi h=>by have:=(by decide:∀ i,i<6->54<=[54,55,56,57,58,59].getD i 0/\[54,55,56,57,58,59].getD i 0<60) i hi; omega)).trans aF)
  obtain⟨mid,hmid,hfr⟩:=Rg.gM (a:=a.put (V 9) v') 54 6 (by simp [aY,df]) (by simp [aY,sz']) (by simp) rJ;rw [hfr]
  match mid,hmid with
  | [eV,eW,f0,f7,f8,f9],_ =>
   exact HQ.out x2 _ _ _ _ _ _ _ hx ho hk hbl
theorem zL {b:Br} (t x:Id) (f:Int) (R:En->Prop) (hR:∀ e,e.tree=t->R e->R (Ez e)) (h:∀ e∈b.ent,R e):(∀ e∈(takeB b t x f).1.ent,R e)/\∀ e∈(takeB b t x f).2.1,R e:=by
 unfold takeB
 split
 ·exact⟨h,fun e he=>by simp at he⟩
 ·split
  ·exact⟨h,fun e he=>by simp at he⟩
  ·split
   ·exact⟨h,fun e he=>by simp at he⟩
   ·split
    ·exact⟨fun e he=>h e (pW he),fun e he=>by simp at he⟩
    ·exact zG R hR (fun e he=>h e (pW he)) _
theorem Ho (b:Br) (t x:Id) (f:Int):(jI b t x f).2.length<=b.ent.length+1:=by
 unfold jI;have h:=(qw b t x f).2
 split
 ·simp
 ·split
  ·simp
  ·rw [aK,aG];simp;omega
def oq (x:Id) (s:Br×List Ou) (t:Id):Br×List Ou:=((jI s.1 t x (-1)).1,s.2++(jI s.1 t x (-1)).2)
def lM (b:Br) (x:Id):List Ow:=b.own.filter fun o=>decide (o.id≠x)
def gX (b:Br) (x:Id) (k:Nat):Br×List Ou:=((b.dO.map Ad.id).take k).foldl (oq x) ({ b with own:=lM b x },[])
def fT (b:Br) (x:Id):Br×List Ou:=if (lM b x).length=b.own.length then (b,[]) else gX b x b.dO.length
theorem lg (b:Br) (x:Id) {k:Nat} {a:Ad} (h:b.dO[k]?=V a):gX b x (k+1)=oq x (gX b x k) a.id:=by
 unfold gX;rw [bG,aH,h,List.foldl_append]
 rfl
structure UnI (b0 b:Br) (o:List Ow):Prop where
 me:b.me=b0.me
 near:b.near=b0.near
 dO:b.dO=b0.dO
 seen:b.seen=b0.seen
 own:b.own=o
 len:b.ent.length<=b0.ent.length
theorem UnI.drop {b0 b:Br} {o:List Ow} (h:UnI b0 b o) (t x:Id) (f:Int):UnI b0 (jI b t x f).1 o:=by
 rw [jR];obtain⟨h1,h2,h3,h4,h5⟩:=jP b t x f;exact⟨h3.trans h.me,h2.trans h.near,h1.trans h.dO,h4.trans h.seen,h5.trans h.own,aC (qw b t x f).1 h.len⟩
theorem qy (b:Br) (x:Id):∀ k,k<=b.dO.length->UnI b (gX b x k).1 (lM b x)/\(gX b x k).2.length<=k * (b.ent.length+1)
 | 0,_=>⟨⟨rfl,rfl,rfl,rfl,rfl,aJ _⟩,by simp [gX]⟩
 | k+1,hk=>by
  obtain⟨a,ha⟩:∃ a,b.dO[k]?=V a:=⟨_,aj hk⟩;obtain⟨h1,h2⟩:=qy b x k (by omega);rw [lg b x ha];refine⟨h1.drop _ _ _,?_⟩;show ((gX b x k).2++(jI (gX b x k).1 a.id x (-1)).2).length<=_;have h3:=Ho (gX b x k).1 a.id x (-1);have h4:=h1.len;rw [aK,bY];omega
theorem qK (b:Br) (x:Id) (R:En->Prop) (hR:∀ e,R e->R (Ez e)) (h:∀ e∈b.ent,R e):∀ k,k<=b.dO.length->∀ e∈(gX b x k).1.ent,R e
 | 0,_=>h
 | k+1,hk=>by
  obtain⟨a,ha⟩:∃ a,b.dO[k]?=V a:=⟨_,aj hk⟩;rw [lg b x ha];show ∀ e∈(jI _ _ _ _).1.ent,R e;rw [jR];exact (zL _ _ _ R (fun e _=>hR e) (qK b x R hR h k (by omega))).1
noncomputable def ah7:Code:=((Tryz.f17.body.bind (kM 0)).getD .skip)
theorem acK (Q:Exit->Act->aA->Prop) (W:aA) (b2 b3:Nat) (me c d:Int) (y1 y2 y3 y4:aB) (so:Option bN) (n sc:Nat) (l:List ny) (cD cF cG cH cI cJ cL cM cN cP cQ i0 i3 i4 i5 i6 i7 i8 i9 iF iS j0 j2 j3 j4 j5 j6 j7 cR cS cT cU cV cW cX cY d1 d3 d4 d5 d7 d9 dA dC dE dS dT e7 e9 eA eB eC eE eI eJ eK eL eM eN eQ eS eV eW f0 f7 f8 f9 fL fN fP fR fS fW fX fY g0 g6 g9 gE gO gR gS hC hG hH hJ hL hM hO hS hT hU hW hX hY hZ:aB)
  (h2:dK W b2 #[U O me,y1,y2,y3,y4,J so n sc] 30) (h3:dK W b3 #[U O c,U O d] 23) (hs:EP W (J so n sc) l) (hn:n=l.length) (hm:n<=1000000)
  (hQ:∀ (wr:aA) (T a0 a3 a4 a5 a6 a7 a8 aE b9 bJ bQ c7 c8 c9 cA cC:aB),Below W.heap.size W wr->Q .normal ⟨(cD::cF::cG::Y (V ⟨b2,0,X⟩)::Y (V ⟨b3,0,X⟩)::cH::cI::cJ::U O (fC (l.map fun y=>(y.1,y.2.1)) (c,d):Nat)::cL::cM::cN::cP::cQ::T::a0::a3::a4::a5::a6::a7::a8::aE::b9::bJ::bQ::c7::c8::c9::cA::cC::cR::cS::cT::cU::cV::cW::cX::cY::d1::d3::d4::d5::d7::d9::dA::dC::dE::dS::dT::e7::e9::eA::eB::eC::eE::eI::eJ::eK::eL::eM::eN::eQ::eS::eV::eW::f0::f7::f8::f9::fL::fN::fP::fR::fS::fW::fX::fY::g0::g6::g9::gE::gO::gR::gS::hC::hG::hH::hJ::hL::hM::hO::hS::hT::hU::hW::hX::hY::hZ::[]).toArray,[]⟩ wr) :
  Code.wp au ah7 Q ⟨(cD::cF::cG::Y (V ⟨b2,0,X⟩)::Y (V ⟨b3,0,X⟩)::cH::cI::cJ::U O 0::cL::cM::cN::cP::cQ::i0::i3::i4::i5::i6::i7::i8::i9::iF::iS::j0::j2::j3::j4::j5::j6::j7::cR::cS::cT::cU::cV::cW::cX::cY::d1::d3::d4::d5::d7::d9::dA::dC::dE::dS::dT::e7::e9::eA::eB::eC::eE::eI::eJ::eK::eL::eM::eN::eQ::eS::eV::eW::f0::f7::f8::f9::fL::fN::fP::fR::fS::fW::fX::fY::g0::g6::g9::gE::gO::gR::gS::hC::hG::hH::hJ::hL::hM::hO::hS::hT::hU::hW::hX::hY::hZ::[]).toArray,[]⟩ W:=by
 have HQ:=L hQ;have H2:=L h2;have H3:=L h3;have HS:=L hs;have HN:=L hn;clear hQ h2 h3 hs hn
 conv=>arg 2; whnf
 go_wp2
 go_loopw [8] (fun i wr=>∃ k:Nat,k<=n/\i=U O k/\Below W.heap.size W wr/\∀ (j:Nat) (y:Id),j<k->(l.map fun y=>(y.1,y.2.1))[j]?=V y->eH y (c,d)=true) (fun i _=>n-(intOf i).toNat)
 case atStart=>exact⟨0,aO _,rfl,ah _ _,fun j y h=>by omega⟩
 case round =>
  obtain⟨k,hk,rfl,hbe,hall⟩:=hrel;have BE:=L hbe;have AL:=L hall;clear hbe hall;have q0:=cell_regrown (show wr.cell? ⟨b2,5,X⟩=V (J so n sc) from (H2.out.on BE.out).cell 5);have r0:=cell_regrown (show wr.cell? ⟨b3,0,X⟩=V (U O c) from (H3.out.on BE.out).cell 0);have r1:=cell_regrown (show wr.cell? ⟨b3,1,X⟩=V (U O d) from (H3.out.on BE.out).cell 1);have hw3:IntKind.i64.wrap ((k:Int)+1)=(k:Int)+1:=IntWalk.i64_in _ (by omega);by_cases hlt:k<n
  ·obtain⟨y,hy⟩:∃ y,l[k]?=V y:=⟨_,aj (by rw [<- HN.out]; exact hlt)⟩;obtain⟨p,ix,px⟩:=elW HS.out rfl HN.out.symm hy;have AA:=px wr BE.out;obtain⟨y1,y2,⟨yo,yn,yc⟩⟩:=y;simp only at AA;have p0:=cell_regrown AA.1;have p1:=cell_regrown AA.2.1;have zU:decide ((k:Int)<(n:Int))=true:=decide_eq_true (by omega);have EZ:decide (k<n)=true:=decide_eq_true hlt;obtain⟨r,hr⟩:∃ r,eH (y1,y2) (c,d)=r:=⟨_,rfl⟩;have LS:=L (fun d' os=>Calls.regrown_of (d:=d') (os:=os) ((uW (y1,y2) (c,d) (grow (redrawn wr d') os)).mono fun _ _ h=>⟨by rw [h.1,hr],h.2⟩));have HY:=L (show (l.map fun y=>(y.1,y.2.1))[k]?=V (y1,y2) by rw [aH,hy]; rfl);have HR:=L hr;clear px AA hy hr;cases r
   ·go_wp2_with fail;refine wp_region_quiet_below (by kernel_rfl) (by kernel_rfl) ?_
    repeat (go_big_quiet_step (first | (with_reducible exact LS.out _ _)))
    refine wpQuiet_nil ?_;intro _ hw';obtain⟨⟨dq,osq⟩,hw''⟩:=hw';subst hw'';have Z6:=below_regrown wr dq osq;have HF:=L (fun T a0 a3 a4 a5 a6 a7 a8 aE b9 bJ bQ c7 c8 c9 cA cC=>HQ.out (grow (redrawn wr dq) osq) T a0 a3 a4 a5 a6 a7 a8 aE b9 bJ bQ c7 c8 c9 cA cC (BE.out.trans (Z6.mono BE.out.size)));rw [qG (l.map fun y=>(y.1,y.2.1)) (c,d) k AL.out (aD ⟨_,HY.out,HR.out⟩)] at HF;clear ix HQ q0 r0 r1 LS zU EZ p0 p1;go_wp2;exact HF.out _ _ _ _ _ _ _ _ _ _ _ _ _ _ _ _ _
   ·go_wp2_with fail;refine wp_region_quiet_below (by kernel_rfl) (by kernel_rfl) ?_
    repeat (go_big_quiet_step (first | (with_reducible exact LS.out _ _)))
    refine wpQuiet_nil ?_;intro _ hw';obtain⟨⟨dq,osq⟩,hw''⟩:=hw';subst hw'';have Z6:=L (below_regrown wr dq osq);clear ix q0 r0 r1 LS zU EZ p0 p1;go_wp2
    go_roundw
    case rel=>exact⟨k+1,by omega,by go_num,BE.out.trans (Z6.out.mono BE.out.size),fun j y' hj h1=>by
     rcases bR j k with h3|h3
     ·exact AL.out j y' h3 h1
     ·obtain rfl:j=k:=by omega
      have e1:=HY.out;rw [h1] at e1;rw [aU e1];exact HR.out⟩
    case measure=>simp [intOf]; omega
  ·obtain rfl:k=n:=by omega
   have zU:decide ((k:Int)<(k:Int))=false:=by simp
   have EZ:decide (k<k)=false:=by simp
   go_wp2_with fail;refine wp_region_quiet_below (by kernel_rfl) (by kernel_rfl) ?_
   repeat (go_big_quiet_step (fail))
   refine wpQuiet_nil ?_;intro _ hw';obtain⟨⟨dq,osq⟩,hw''⟩:=hw';subst hw'';have Z6:=below_regrown wr dq osq;have HF:=L (fun T a0 a3 a4 a5 a6 a7 a8 aE b9 bJ bQ c7 c8 c9 cA cC=>HQ.out (grow (redrawn wr dq) osq) T a0 a3 a4 a5 a6 a7 a8 aE b9 bJ bQ c7 c8 c9 cA cC (BE.out.trans (Z6.mono BE.out.size)));rw [qG (l.map fun y=>(y.1,y.2.1)) (c,d) k AL.out (aT (by simpa using HN.out))] at HF;clear HQ q0 r0 r1 zU EZ;go_wp2;exact HF.out _ _ _ _ _ _ _ _ _ _ _ _ _ _ _ _ _
def Bo (B:Nat) (b11 _ _:Nat) (_ _ jh c d c2 d2 fr:Int) (up:Bool) (_ po:Option bN) (_ _ pn pc:Nat) (rv:aB) (_:List mX) (i:Nat) (v:aB) (x:aA):Prop :=
 match i with
 | 0=>v=rv
 | 1=>v=Y (V ⟨b11,3,X⟩)
 | 2=>v=U O jh
 | 3=>v=aR #[U O c,U O d,U O c2,U O d2,J po pn pc,U O fr,aZ up]
 | 4=>v=aR #[U O 3,U O c,U O d,U O c2,U O d2,J po pn pc,J X 0 0]
 | 5=>v=uZ (jh,3,c,d,c2,d2,(po,pn,pc),(X,0,0))
 | 6=>jX x B v [(jh,3,c,d,c2,d2,(po,pn,pc),(X,0,0))]
 | _=>True
noncomputable def QN:Code:=((Tryz.f17.body.bind (eO 16)).getD .skip)
theorem OY (B:Nat) (b11 b12 F0:Nat) (z1 z2 jh c d c2 d2 fr:Int) (up:Bool) (z3 po:Option bN) (z4 z5 pn pc:Nat) (rv:aB) (lo:List mX) (i:Nat) (v:aB) (x x':aA) (h:Bo B b11 b12 F0 z1 z2 jh c d c2 d2 fr up z3 po z4 z5 pn pc rv lo i v x) (hb:Below x.heap.size x x'):Bo B b11 b12 F0 z1 z2 jh c d c2 d2 fr up z3 po z4 z5 pn pc rv lo i v x':=by
 by_cases hi:i<7
 ·rcases (by omega:i=0\/i=1\/i=2\/i=3\/i=4\/i=5\/i=6) with rfl|rfl|rfl|rfl|rfl|rfl|rfl
  ·exact h
  ·exact h
  ·exact h
  ·exact h
  ·exact h
  ·exact h
  ·exact dI h hb
 ·unfold Bo
  split <;> first | omega | trivial
theorem Yo (Q:Exit->Act->aA->Prop) (W:aA) (b11 b12 F0:Nat) (z1 z2 jh c d c2 d2 fr:Int) (up:Bool) (z3 po:Option bN) (z4 z5 pn pc:Nat) (rv:aB) (lo:List mX) (T a0 a3 a4 a5 a6 a7 a8 aE b9 bJ bQ c7 c8 c9 cA cC cD cF cG cH cI cJ cL cM cN cP cQ cR cS cT cU cV cW cX cY d1 d3 d4 d5 d7 d9 dA dC dE dS dT e7 eA eB eC eE eI eJ eK eL eM eN eQ eS eV eW f0 f7 f8 f9 fL fN fP fR fS fW fX fY g0 g6 g9 gE gO gR gS hC hG hH hJ hS hT hU hW hX hY hZ i0 hL hM hO:aB)
  (h11:dK W b11 #[U O z1,U O z2,J z3 z4 z5,U O jh] 36) (h12:dK W b12 #[U O c,U O d,U O c2,U O d2,J po pn pc,U O fr,aZ up] 67) (fw:F0<=W.heap.size) (ho:jX W F0 rv lo) (hl:lo.length<=1000000)
  (hQ:∀ (x0 x:aA) (w9:aB) (i3 i4 i5 i6 i7 i8 i9 iF:aB),Below W.heap.size W x0->x0.grownBy x rv.ownBlock->jX x F0 w9 (lo++[(jh,3,c,d,c2,d2,(po,pn,pc),(X,0,0))])->Q .normal ⟨(T::a0::a3::a4::a5::a6::a7::a8::aE::w9::b9::Y (V ⟨b11,0,X⟩)::Y (V ⟨b12,0,X⟩)::bJ::bQ::c7::c8::c9::cA::cC::cD::cF::cG::cH::cI::cJ::cL::cM::cN::cP::cQ::cR::cS::cT::cU::cV::cW::cX::cY::d1::d3::d4::d5::d7::d9::dA::dC::dE::dS::dT::e7::eA::eB::eC::eE::eI::eJ::eK::eL::eM::eN::eQ::eS::eV::eW::f0::f7::f8::f9::fL::fN::fP::fR::fS::fW::fX::fY::g0::g6::g9::gE::gO::gR::gS::hC::hG::hH::hJ::i3::i4::i5::i6::i7::i8::i9::iF::hL::hM::hO::[]).toArray,[]⟩ x) :
  Code.wp au QN Q ⟨(T::a0::a3::a4::a5::a6::a7::a8::aE::rv::b9::Y (V ⟨b11,0,X⟩)::Y (V ⟨b12,0,X⟩)::bJ::bQ::c7::c8::c9::cA::cC::cD::cF::cG::cH::cI::cJ::cL::cM::cN::cP::cQ::cR::cS::cT::cU::cV::cW::cX::cY::d1::d3::d4::d5::d7::d9::dA::dC::dE::dS::dT::e7::eA::eB::eC::eE::eI::eJ::eK::eL::eM::eN::eQ::eS::eV::eW::f0::f7::f8::f9::fL::fN::fP::fR::fS::fW::fX::fY::g0::g6::g9::gE::gO::gR::gS::hC::hG::hH::hJ::hS::hT::hU::hW::hX::hY::hZ::i0::hL::hM::hO::[]).toArray,[]⟩ W:=by
 have HQ:=L hQ;have H11:=L h11;have H12:=L h12;have FW:=L fw;have HO:=L ho;have HL:=L hl;clear hQ h11 h12 fw ho hl;have jW:=OY W.heap.size b11 b12 F0 z1 z2 jh c d c2 d2 fr up z3 po z4 z5 pn pc rv lo;unfold QN
 conv=>arg 2; whnf
 have nd:∀ j,(∀ i,i<7->[88,89,90,91,92,93,94].getD i 0≠j)->∀ i,i<7->(fun i=>[88,89,90,91,92,93,94].getD i 0) i≠j:=fun j h=>h;refine Rg.gU 9 7 (fun i=>[88,89,90,91,92,93,94].getD i 0) (fun _=>7) (Bo W.heap.size b11 b12 F0 z1 z2 jh c d c2 d2 fr up z3 po z4 z5 pn pc rv lo) (by kernel_rfl) (by kernel_rfl) rfl (by decide) (fun i j hi hj h=>(by decide:∀ i,i<7->∀ j,j<7->[88,89,90,91,92,93,94].getD i 0=[88,89,90,91,92,93,94].getD j 0->i=j) i hi j hj h) (fun i hi=>(by decide:∀ i,i<7->[88,89,90,91,92,93,94].getD i 0<99) i hi) ?_ (fun _=>Rg.kL 14 (by kernel_rfl)) ?_ ?_
 ·intro i o hi ho a x D hnd hc hD hb seen K hK;clear HQ;rcases (by omega:i=0\/i=1\/i=2\/i=3\/i=4\/i=5\/i=6) with rfl|rfl|rfl|rfl|rfl|rfl|rfl
  ·cases ho;have e9:a.eval (ak 9)=rv:=seen.kp 9 _ (nd 9 (by decide)) rfl;exact aI rfl rfl (bZ a.eval _ (ak 9) rfl x) (hK _ _ e9 (ah _ _) fun _ _ _ _ _ _ _ h=>h)
  ·cases ho;have e11:a.eval (ak 11)=Y (V ⟨b11,0,X⟩):=seen.kp 11 _ (nd 11 (by decide)) rfl;exact aI rfl rfl (Rg.dW a.eval _ 36 (ak 11) 2 rfl (by rw [e11]; simp [go_sem])) (hK _ _ rfl (ah _ _) fun _ _ _ _ _ _ _ h=>h)
  ·cases ho;have e89:a.eval (ak 89)=Y (V ⟨b11,3,X⟩):=seen.at_ ⟨1,.data⟩ (by simp) rfl (aD (by decide));have y3:=(H11.out.on hb).cell 3;simp only [aF,aM,aN] at y3;exact aI rfl rfl (bW a.eval _ 3 (ak 89) rfl (by rw [e89]; simp [go_sem,y3])) (hK _ _ rfl (ah _ _) fun _ _ _ _ _ _ _ h=>h)
  ·cases ho;have e12:a.eval (ak 12)=Y (V ⟨b12,0,X⟩):=seen.kp 12 _ (nd 12 (by decide)) rfl;obtain⟨y0,y1,y2,y3,y4,y5,y6⟩:=(H12.out.on hb).pG;exact aI rfl rfl (bW a.eval _ 67 (ak 12) rfl (by rw [e12]; simp [go_sem,y0,y1,y2,y3,y4,y5,y6])) (hK _ _ rfl (ah _ _) fun _ _ _ _ _ _ _ h=>h)
  ·cases ho;have e91:a.eval (ak 91)=aR #[U O c,U O d,U O c2,U O d2,J po pn pc,U O fr,aZ up]:=seen.at_ ⟨3,.data⟩ (by simp) rfl (aD (by decide));exact Rg.gP rfl rfl (iZ a.eval _ (ak 91) 67 58 rfl e91 rfl _ (fV Tryz.func58 rfl rfl _ _)) (Bh (c,d,c2,d2,(po,pn,pc),fr,up) x) fun e w1 h=>by
    obtain⟨rfl,h3⟩:=h;exact⟨_,rfl,hK _ _ rfl (h3.mono hb.size) fun j u _ _ _ _ _ h=>jW j u _ _ h h3⟩
  ·cases ho;have e90:a.eval (ak 90)=U O jh:=seen.at_ ⟨2,.data⟩ (by simp) rfl (aD (by decide));have e92:a.eval (ak 92)=aR #[U O 3,U O c,U O d,U O c2,U O d2,J po pn pc,J X 0 0]:=seen.at_ ⟨4,.data⟩ (by simp) rfl (aD (by decide));exact aI rfl rfl (cK a.eval _ 46 #[(0,ak 90),(1,ak 92)] rfl (ps:=#[(0,U O jh),(1,aR #[U O 3,U O c,U O d,U O c2,U O d2,J po pn pc,J X 0 0])]) (by simp only [aS,bf,bF,e90,e92]) (by simp [go_sem])) (hK _ _ rfl (ah _ _) fun _ _ _ _ _ _ _ h=>h)
  ·cases ho;have e93:a.eval (ak 93)=uZ (jh,3,c,d,c2,d2,(po,pn,pc),(X,0,0)):=seen.at_ ⟨5,.data⟩ (by simp) rfl (aD (by decide));have hl:=jC Ew x [((jh,3,c,d,c2,d2,(po,pn,pc),(X,0,0)):mX)] 1 rfl (by simp) (jK (jh,3,c,d,c2,d2,(po,pn,pc),(X,0,0))).toArray (by simp [flat,EU]);have nb:=gN x (ay (jK (jh,3,c,d,c2,d2,(po,pn,pc),(X,0,0))).toArray 46);exact aI rfl rfl (cO a.eval _ 37 1 #[(0,ak 93)] rfl (ps:=#[(0,uZ (jh,3,c,d,c2,d2,(po,pn,pc),(X,0,0)))]) (by simp [e93]) (by simp [go_sem])) (hK (J (V ⟨x.heap.size,0,X⟩) 1 1) (x.alloc (ay (jK (jh,3,c,d,c2,d2,(po,pn,pc),(X,0,0))).toArray 46)) (dM hl hb.size) (nb.mono hb.size) fun j u _ _ _ _ _ h=>jW j u _ _ h nb)
 ·intro kk o h1 h2 ho;rcases (by omega:kk=8) with rfl
  ·cases ho;exact⟨⟨7,.data⟩,by simp,rfl,rfl⟩
 ·intro a w' df sz kp ⟨vs,hv⟩ hb;have sz':a.tmps.size=99:=sz;have g88:a.tmps[88]?=V (rv):=by
   have h:vs 0=rv:=(hv 0 (by omega)).2 (by decide);rw [<- h];exact (hv 0 (by omega)).1
  have g94:a.tmps[94]?=V (vs 6):=(hv 6 (by omega)).1;have G94:=(hv 6 (by omega)).2 (by decide);have o94:jX w' W.heap.size (vs 6) [(jh,3,c,d,c2,d2,(po,pn,pc),(X,0,0))]:=G94;generalize vs 6=v6 at *;obtain⟨v',x',r,o',gr⟩:=sD Ew F0 (dI HO.out hb) (Row.dJ o94) HL.out (by simp) (aC FW.out hb.size) 37;show cB _ _ _ 2 7 a w';simp only [cB];refine aI rfl rfl (cu a.eval _ (ak 88) (ak 94) 37 rfl (bX g88) (bX g94) r) ?_;have e95:(a.put (V 95) v').eval (ak 95)=v':=bX (by simp [aY,sz']);refine aI rfl rfl (cZ _ _ (ak 95) rfl x') ?_;show Q .normal ((a.put (V 95) v').put (V 9) ((a.put (V 95) v').eval (ak 95))) x';rw [e95];show Q .normal ((a.put (V 95) v').put (V 9) v') x';have ka:∀ j,j≠95->j≠9->((a.put (V 95) v').put (V 9) v').tmps[j]?=a.tmps[j]?:=fun j h1 h2=>by rw [bM _ _ _ _ (by omega),bM _ _ _ _ (by omega)]
  have kt:((a.put (V 95) v').put (V 9) v').tmps[9]?=V (v'):=by simp [aY,sz']
  have rJ:∀ j,(j<88\/96<=j)->((a.put (V 95) v').put (V 9) v').tmps[j]?=(T::a0::a3::a4::a5::a6::a7::a8::aE::v'::b9::Y (V ⟨b11,0,X⟩)::Y (V ⟨b12,0,X⟩)::bJ::bQ::c7::c8::c9::cA::cC::cD::cF::cG::cH::cI::cJ::cL::cM::cN::cP::cQ::cR::cS::cT::cU::cV::cW::cX::cY::d1::d3::d4::d5::d7::d9::dA::dC::dE::dS::dT::e7::eA::eB::eC::eE::eI::eJ::eK::eL::eM::eN::eQ::eS::eV::eW::f0::f7::f8::f9::fL::fN::fP::fR::fS::fW::fX::fY::g0::g6::g9::gE::gO::gR::gS::hC::hG::hH::hJ::hS::hT::hU::hW::hX::hY::hZ::i0::hL::hM::hO::[])[j]?:=fun j hj=>by
   by_cases hj2:j=9
   ·subst hj2;exact kt
   ·have hs:(T::a0::a3::a4::a5::a6::a7::a8::aE::v'::b9::Y (V ⟨b11,0,X⟩)::Y (V ⟨b12,0,X⟩)::bJ::bQ::c7::c8::c9::cA::cC::cD::cF::cG::cH::cI::cJ::cL::cM::cN::cP::cQ::cR::cS::cT::cU::cV::cW::cX::cY::d1::d3::d4::d5::d7::d9::dA::dC::dE::dS::dT::e7::eA::eB::eC::eE::eI::eJ::eK::eL::eM::eN::eQ::eS::eV::eW::f0::f7::f8::f9::fL::fN::fP::fR::fS::fW::fX::fY::g0::g6::g9::gE::gO::gR::gS::hC::hG::hH::hJ::hS::hT::hU::hW::hX::hY::hZ::i0::hL::hM::hO::[]:List aB)=(T::a0::a3::a4::a5::a6::a7::a8::aE::rv::b9::Y (V ⟨b11,0,X⟩)::Y (V ⟨b12,0,X⟩)::bJ::bQ::c7::c8::c9::cA::cC::cD::cF::cG::cH::cI::cJ::cL::cM::cN::cP::cQ::cR::cS::cT::cU::cV::cW::cX::cY::d1::d3::d4::d5::d7::d9::dA::dC::dE::dS::dT::e7::eA::eB::eC::eE::eI::eJ::eK::eL::eM::eN::eQ::eS::eV::eW::f0::f7::f8::f9::fL::fN::fP::fR::fS::fW::fX::fY::g0::g6::g9::gE::gO::gR::gS::hC::hG::hH::hJ::hS::hT::hU::hW::hX::hY::hZ::i0::hL::hM::hO::[]).set 9 (v'):=rfl;rw [hs,aX (Ne.symm hj2)];exact (ka j (by omega) hj2).trans ((kp j (nd j fun i hi h=>by have:=(by decide:∀ i,i<7->88<=[88,89,90,91,92,93,94].getD i 0/\[88,89,90,91,92,93,94].getD i 0<96) i hi; omega)).trans aF)
  obtain⟨mid,hmid,hfr⟩:=Rg.gM (a:=(a.put (V 95) v').put (V 9) v') 88 8 (by simp [aY,df]) (by simp [aY,sz']) (by simp) rJ;rw [hfr]
  match mid,hmid with
  | [i3,i4,i5,i6,i7,i8,i9,iF],_ =>
   exact HQ.out w' x' _ _ _ _ _ _ _ _ _ hb gr o'
def Hq (near:List Int) (n:Int):Int:=(near[(Wi.within n 0 near.length).toNat]?).getD (-1)
theorem Yp (me n:Int) (nv:Sl) (av sv ev ov:aB) (l:List Int) (w:aA) (hs:uR w (dX nv) l) (hl:l.length<=900) (h1:-9223372036854775808<=n) (h2:n<=9223372036854775807) :
  bI au 49 #[aR #[U O me,dX nv,av,sv,ev,ov],U O n] w fun e w'=>e=aL (U O (Hq l n))/\Below w.heap.size w w':=by
 obtain⟨no,nn,nc⟩:=nv;obtain⟨q1,q2,hq⟩:=hs.len;obtain⟨rfl,rfl,rfl⟩:no=q1/\nn=l.length/\nc=q2:=by
  have:J no nn nc=J q1 l.length q2:=hq;simpa using this
 obtain⟨nn,hnn⟩:∃ n,n=l.length:=⟨_,rfl⟩;simp only [<- hnn] at hs ⊢;have NB:=gN w (ay #[U O me,J no nn nc,av,sv,ev,ov] 30);have B0:=L NB;have X2:=L (dQ w #[U O me,J no nn nc,av,sv,ev,ov] 30);have HS:=L (hs.on NB);have HN:=L hnn;have nl:nn<=900:=by omega
 clear NB hs hq hnn hl;show bI au 49 #[aR #[U O me,J no nn nc,av,sv,ev,ov],U O n] w _;go_enter Tryz.func49,Tryz.ntmps49;go_upto_region 1 with fail;generalize w.alloc (ay #[U O me,J no nn nc,av,sv,ev,ov] 30)=W at *;have x1:=X2.out.cell 1;simp only [aF,aM,aN] at x1;have WI:=Wi.kD n 0 (nn:Int) W (by omega) (by decide) (by omega) h1 h2;have WB:=Wi.jY n 0 (nn:Int) (by omega);have SD:=L (show Hq l n=(l[(Wi.within n 0 (nn:Int)).toNat]?).getD (-1) from by unfold Hq; rw [HN.out]);generalize Wi.within n 0 (nn:Int)=y at *;obtain⟨m,rfl⟩:∃ m:Nat,y=m:=⟨y.toNat,by omega⟩;rw [aQ] at SD;go_wp2_with fail;refine WI.mono ?_;rintro e2 w2 ⟨rfl,rfl⟩;clear WI;by_cases hm:m<nn
 ·have hm2:(m:Int)<(nn:Int):=by omega
  obtain⟨z,hz⟩:∃ z,l[m]?=V z:=⟨_,aj (by rw [<- HN.out]; exact hm)⟩;obtain⟨p,ix,px⟩:=elI HS.out rfl HN.out.symm hz;have p0:=px.2 W (ah _ _);rw [hz] at SD;clear px hz;go_wp2_with fail;go_ret;exact⟨by rw [SD.out]; rfl,B0.out⟩
 ·have hm2:¬ ((m:Int)<(nn:Int)):=by omega
  rw [List.getElem?_eq_none (by have:=HN.out; omega)] at SD;go_wp2_with fail;go_ret;exact⟨by rw [SD.out]; rfl,B0.out⟩
end Bk
namespace Pr
open Go.RowKit Pu Rw
theorem Yq {α:Type} {E:Ek α} (K:E.Ok) (tn:TypeId) (htn:Tryz.prog.underlying tn=V (.int .i64)) (n:Nat) (h0:0<n) (hn:n<=1000) (W:aA) :
  ∃ (G:Nat) (R:Array aB),n<=G/\G<=maxLen/\R.size=G * E.n /\
   ∀ ty,(aP #[E.ts,tn] ty #[J X 0 0,U O n]).run au W=.ok (J (V ⟨W.heap.size,0,X⟩) n G) (W.drew.alloc (ay R E.t)):=by
 obtain⟨i,i1,i2,i3,i4⟩:=K.info;have hf:=K.few;have hpos:=K.pos;have happ:=fun ty=>Lib.run_append_grow_zeros (P:=au) W E.ts tn ty E.t i _ O O K.hu htn i1 i2 X 0 0 [] (run_firstCells_none _ _ _ _ _) n h0 (by rw [i3]; exact hpos) (by omega) (by omega)
  (by rw [i4]; exact aC (aW hn hf) (by decide))
  (growslice_fits (by omega) (by rw [i4]; exact aC (aW (show 0+n<=2000 by omega) hf) (by decide)))
 rw [bU] at happ;have hG1:=grownCap_ge W n 0 E.t;have hG2:=grownCap_le_maxLen W n 0 E.t (by unfold maxLen; omega);generalize grownCap W n 0 E.t=G at happ hG1 hG2;refine⟨G,_,hG1,hG2,?_,happ⟩;simp only [Array.size_append,List.size_toArray,List.length_nil,size_zeroCells,K.zs,bU,<- bY];rw [show n+(G-n)=G by omega]
def Yr (l:List C5) (w:aA) (e:Ending) (w':aA):Prop:=∃ v,e=aL v/\iJ w' w.heap.size v l/\Below w.heap.size w w'
theorem Yt (n:Nat) (w:aA) (hn:n<=200) :
  bI au 171 #[J X 0 0,U O n] w (Yr [] w):=by
 rcases Nat.eq_zero_or_pos n with rfl|h0
 ·have Q:=L (show Yr [] w (aL (J X 0 0)) w from ⟨_,rfl,iO _ _,ah _ _⟩);go_enter bV,bO;go_wp2;go_ret;exact Q.out
 ·obtain⟨G,R,g1,g2,g3,hr⟩:=Yq (E:=EC) wF 3 Tryz.underlying3 n h0 (by omega) w;have r:=hr 34;have s1:=jZ (E:=EC) wF ⟨w.heap.size,0,X⟩ 0 n G (aO _);have Q:=L (show Yr [] w (aL (J (V ⟨w.heap.size,0,X⟩) 0 G)) (w.drew.alloc (ay R 91)) from
   ⟨_,rfl,oI wF (l:=[]) rfl (aJ _) (dQ w.drew R 91) (aO _) g2 g3 (by simp [flat]),(ah _ _).drew.alloc (by simp) _⟩)
  change (aP #[34,3] 34 #[J X 0 0,U O (n:Int)]).run au w=.ok (J (V ⟨w.heap.size,0,X⟩) n G) (w.drew.alloc (ay R 91)) at r;change ∀ W,(Instr.sliceAt 34 (J (V ⟨w.heap.size,0,X⟩) n G) X (V (U O 0)) X).run au W=.ok (J (V ⟨w.heap.size,0,X⟩) 0 G) W at s1;have e1:decide ((n:Int)<0)=false:=by simp
  have e2:decide ((0:Int)<(n:Int))=true:=by simp; omega
  unfold maxLen at g2;clear hr g3;go_enter bV,bO;go_wp2_with (first | (at_builtin; refine jf rfl _ _ 34 3 rfl rfl rfl r ?_) | fail);go_ret;exact Q.out
def anc (n m:Nat) (s i:aB):Prop:=(i=U O 0/\s=U O 0)\/(i=U O 1/\s=U O (n:Int))\/(i=U O 2/\s=U O ((n+m:Nat):Int))
def ane (w:aA) (a b:List C5) (v i:aB) (wr:aA):Prop:=((i=U O 0/\iJ wr w.heap.size v [])\/(i=U O 1/\iJ wr w.heap.size v a)\/(i=U O 2/\iJ wr w.heap.size v (a++b)))/\Below w.heap.size w wr
theorem OZ (g:Nat) (pO bv:aB) (a b:List C5) (w:aA) (c0:w.cell? ⟨g,0,X⟩=V pO) (c1:w.cell? ⟨g,1,X⟩=V bv) (ha:fI w pO a) (hb:fI w bv b) (la:a.length<=100) (lb:b.length<=100) :
  bI au 135 #[J (V ⟨g,0,X⟩) 2 2] w (Yr (a++b) w):=by
 have HA:=L ha;have HB:=L hb;have C0:=L c0;have C1:=L c1;have hg:g<w.heap.size:=World.block_lt_of_cell? w _ c0;obtain⟨ao,ac,rfl⟩:=ha.len;obtain⟨bo,bc,rfl⟩:=hb.len;clear ha hb c0 c1;go_enter Tryz.func135,Tryz.ntmps135;go_wp2
 go_loop [3,11] (fun s i=>anc a.length b.length s i) (fun _ i=>(2-intOf i).toNat)
 case atStart=>exact aT ⟨rfl,rfl⟩
 case round =>
  rcases hrel with⟨rfl,rfl⟩|⟨rfl,rfl⟩|⟨rfl,rfl⟩
  ·have c0:=C0.out;go_wp2
   go_round
   case rel=>exact aD (aT ⟨rfl,rfl⟩)
   case measure=>simp [intOf]
  ·have c1:=C1.out;go_wp2
   go_round
   case rel=>exact aD (aD ⟨rfl,by go_num⟩)
   case measure=>simp [intOf]
  ·have GR:=L (Yt (a.length+b.length) w (by omega));go_wp2_with fail;refine GR.out.mono ?_;rintro e1 w1 ⟨v1,rfl,ho,hb1⟩;have O1:=L ho;have B1:=L hb1;clear ho hb1 GR;go_wp2
   go_loopw [6,27] (fun v i wr=>ane w a b v i wr) (fun _ i _=>(2-intOf i).toNat)
   case atStart=>exact⟨aT ⟨rfl,O1.out⟩,B1.out⟩
   case round =>
    obtain⟨hc,hbw⟩:=hrel;have BW:=L hbw;clear hbw;rcases hc with⟨rfl,ho⟩|⟨rfl,ho⟩|⟨rfl,ho⟩
    ·have c0:=(BW.out.cell (p:=⟨g,0,X⟩) hg).trans C0.out;obtain⟨v',w',r,o',gr⟩:=EK w.heap.size ho (HA.out.on BW.out) (by simp) (by omega) BW.out.size;have B':=L (BW.out.grown gr BW.out.size (fun j hj=>(ho.lt j hj).1));have O':=L o';clear ho o' gr;go_wp2_with (first | (at_builtin; refine wpList_append_run rfl _ _ 34 rfl rfl rfl r ?_) | fail)
     go_roundw
     case rel=>exact⟨aD (aT ⟨rfl,O'.out⟩),B'.out⟩
     case measure=>simp [intOf]
    ·have c1:=(BW.out.cell (p:=⟨g,1,X⟩) hg).trans C1.out;obtain⟨v',w',r,o',gr⟩:=EK w.heap.size ho (HB.out.on BW.out) (by omega) (by omega) BW.out.size;have B':=L (BW.out.grown gr BW.out.size (fun j hj=>(ho.lt j hj).1));have O':=L o';clear ho o' gr;go_wp2_with (first | (at_builtin; refine wpList_append_run rfl _ _ 34 rfl rfl rfl r ?_) | fail)
     go_roundw
     case rel=>exact⟨aD (aD ⟨rfl,O'.out⟩),B'.out⟩
     case measure=>simp [intOf]
    ·have Q:=L (show Yr (a++b) w (aL _) _ from ⟨_,rfl,ho,BW.out⟩);clear ho;go_wp2;go_ret;exact Q.out
end Pr
end Go.Proofs.YtghlpefopidlaaaGreat
