/-
  Rows of IDs, of adve. Conditions as told.
-/
import Derived.Test.YtghlpefopidlaaaGreatDQ000
import Derived.Maps.AppendAt
import Derived.BigQuiet
set_option maxRecDepth 100000
set_option maxHeartbeats 64000000
open _root_.Bool renaming true->aU,false->bG,and_eq_true->bK
open _root_.Go renaming World->Y,Value->aj,cell_regrown->aK,Addr->bN,TypeId->bQ,below_regrown->bU,Act->cu,Operand->cB,Calls->cK
open Go.Addr renaming add->aA
open Go.Instr renaming indexAt->aS,loadAt->aZ,sliceAt->bV
open Go.IntKind renaming i64->O
open Go.Obj renaming cells->aP
open Go.Operand renaming tmp->aG
open Go.Proofs.Tryz renaming prog->ak,ntmps127->bS,func127->bZ
open Go.Region renaming binds->au
open Go.RowKit renaming Below->aL
open Go.RowKit.Below renaming refl->X,heap_setCell->aN
open Go.Value renaming int->U,pointer->Z,slice->ah,string->aW,agg->bf,bool->bF
open _root_.List renaming getElem?_toArray->aB,getElem?_eq_getElem->aC,getElem?_cons_zero->aD,getElem?_cons_succ->aF,getElem?_eq_some_iff->aH,not_mem_nil->aR,mem_cons->aY,map_cons->bD,length_cons->bH,all_eq_true->bJ,length_take->bL,mem_range->bR
open _root_.Nat renaming lt_or_ge->aI,le_refl->aM,zero_le->bg,le_trans->bY
open _root_.Option renaming some->J,none->ay,map_some->aT
open Option.some renaming inj->aO,injEq->aQ
open _root_.Or renaming inr->aJ,inl->aV
open Prod.mk renaming injEq->aX
namespace Go.Proofs.YtghlpefopidlaaaGreat
namespace Bk
open Go.RowKit Rw YtghlpefopidlaaaGreat.Nm Pr
abbrev Sl:=OA×Nat×Nat
abbrev eu (s:Sl):aj:=ah s.1 s.2.1 s.2.2
abbrev Id:=Int×Int
abbrev fB:=Id
abbrev kZ (x:fB):List aj:=[U O x.1,U O x.2]
abbrev X8 (x:fB):aj:=bf #[U O x.1,U O x.2]
def EJ:Ek fB:=⟨23,26,2,16,bf #[U O 0,U O 0],X8,kZ⟩
theorem akk:(Tryz.prog.info? 23).map (fun i=>(i.zero,i.size,i.bytes))=J (J (bf #[U O 0,U O 0]),2,16):=by kernel_rfl
theorem IY (w:Y) (p:bN) (x:fB) (h:∀ r u,(kZ x)[r]?=J u->w.cell? (p.add r)=J u):(aZ 23 (Z (J p))).run ak w=.ok (X8 x) w:=by
 have j:=h 0 _ rfl;have q:=h 1 _ rfl;simp [aA] at j q;simp [go_sem,j,q]
theorem Eu:EJ.Ok where
 hu:=Tryz.underlying26
 info:=by
  have h:=akk;cases j:Tryz.prog.info? 23 with
  | none=>rw [j] at h; cases h
  | some i =>
   rw [j] at h;simp only [aT,aQ,aX] at h;exact⟨i,j,h.1,h.2.1,h.2.2⟩
 zs:=rfl
 len:=fun _=>rfl
 one:=fun x q hu=>by
  simp only [EJ,kZ,aY,aR,or_false] at hu;rcases hu with rfl|rfl <;> rfl
 pos:=by decide
 few:=by decide
 load:=fun w p x h=>IY w p x h
abbrev yL (W:Y) (v:aj) (l:List fB):Prop:=Row EJ W v l
abbrev tq (W:Y) (B:Nat) (v:aj) (l:List fB):Prop:=Own EJ W B v l
theorem elJ {W:Y} {v:aj} {l:List fB} {j:OA} {n c k:Nat} {x:fB} (h:yL W v l) (H:v=ah j n c) (G:l.length=n) (F:l[k]?=J x) :
  ∃ p:bN,(∀ w,(aS 26 (ah j n c) (U O k)).run ak w=.ok (Z (J p)) w)/\∀ w,aL W.heap.size W w->w.cell? p=J (U O x.1)/\w.cell? ⟨p.block,p.off+1,ay⟩=J (U O x.2):=by
 obtain⟨p,u,_,q⟩:=qR Eu h H G F;exact⟨p,u,fun w r=>⟨by simpa [aA] using q w r 0 _ rfl,by simpa [aA] using q w r 1 _ rfl⟩⟩
abbrev ku:=Int×Int×Sl×Int
abbrev cellsD (x:ku):List aj:=[U O x.1,U O x.2.1,eu x.2.2.1,U O x.2.2.2]
abbrev nC (x:ku):aj:=bf #[U O x.1,U O x.2.1,eu x.2.2.1,U O x.2.2.2]
def ED:Ek ku:=⟨36,25,4,48,bf #[U O 0,U O 0,ah ay 0 0,U O 0],nC,cellsD⟩
theorem akl:(Tryz.prog.info? 36).map (fun i=>(i.zero,i.size,i.bytes))=J (J (bf #[U O 0,U O 0,ah ay 0 0,U O 0]),4,48):=by kernel_rfl
theorem X9 (w:Y) (p:bN) (x:ku) (h:∀ F G,(cellsD x)[F]?=J G->w.cell? (p.add F)=J G):(aZ 36 (Z (J p))).run ak w=.ok (nC x) w:=by
 have j:=h 0 _ rfl;have q:=h 1 _ rfl;have r:=h 2 _ rfl;have u:=h 3 _ rfl;simp [aA] at j q r u;simp [go_sem,j,q,r,u]
theorem okD:ED.Ok where
 hu:=Tryz.underlying25
 info:=by
  have h:=akl;cases j:Tryz.prog.info? 36 with
  | none=>rw [j] at h; cases h
  | some i =>
   rw [j] at h;simp only [aT,aQ,aX] at h;exact⟨i,j,h.1,h.2.1,h.2.2⟩
 zs:=rfl
 len:=fun _=>rfl
 one:=fun x q hu=>by
  simp only [ED,cellsD,aY,aR,or_false] at hu;rcases hu with rfl|rfl|rfl|rfl <;> rfl
 pos:=by decide
 few:=by decide
 load:=fun w p x h=>X9 w p x h
abbrev zx (W:Y) (v:aj) (l:List ku):Prop:=Row ED W v l
abbrev nD (W:Y) (B:Nat) (v:aj) (l:List ku):Prop:=Own ED W B v l
theorem Mv {W:Y} {v:aj} {l:List ku} {r:OA} {n c k:Nat} {x:ku} (h:zx W v l) (H:v=ah r n c) (G:l.length=n) (F:l[k]?=J x) :
  ∃ p:bN,(∀ w,(aS 25 (ah r n c) (U O k)).run ak w=.ok (Z (J p)) w)/\∀ w,aL W.heap.size W w->w.cell? p=J (U O x.1)/\w.cell? ⟨p.block,p.off+1,ay⟩=J (U O x.2.1)/\w.cell? ⟨p.block,p.off+2,ay⟩=J (eu x.2.2.1)/\w.cell? ⟨p.block,p.off+3,ay⟩=J (U O x.2.2.2):=by
 obtain⟨p,u,_,j⟩:=qR okD h H G F;exact⟨p,u,fun w q=>⟨by simpa [aA] using j w q 0 _ rfl,by simpa [aA] using j w q 1 _ rfl,by simpa [aA] using j w q 2 _ rfl,by simpa [aA] using j w q 3 _ rfl⟩⟩
abbrev iY:=Int×Int×Int×Int×Sl×Int×Bool
abbrev jE (x:iY):List aj:=[U O x.1,U O x.2.1,U O x.2.2.1,U O x.2.2.2.1,eu x.2.2.2.2.1,U O x.2.2.2.2.2.1,bF x.2.2.2.2.2.2]
abbrev qd (x:iY):aj:=bf #[U O x.1,U O x.2.1,U O x.2.2.1,U O x.2.2.2.1,eu x.2.2.2.2.1,U O x.2.2.2.2.2.1,bF x.2.2.2.2.2.2]
def EN:Ek iY:=⟨67,27,7,72,bf #[U O 0,U O 0,U O 0,U O 0,ah ay 0 0,U O 0,bF bG],qd,jE⟩
theorem akm:(Tryz.prog.info? 67).map (fun i=>(i.zero,i.size,i.bytes))=J (J (bf #[U O 0,U O 0,U O 0,U O 0,ah ay 0 0,U O 0,bF bG]),7,72):=by kernel_rfl
theorem aeL (w:Y) (p:bN) (x:iY) (h:∀ I M,(jE x)[I]?=J M->w.cell? (p.add I)=J M):(aZ 67 (Z (J p))).run ak w=.ok (qd x) w:=by
 have j:=h 0 _ rfl;have q:=h 1 _ rfl;have r:=h 2 _ rfl;have u:=h 3 _ rfl;have F:=h 4 _ rfl;have G:=h 5 _ rfl;have H:=h 6 _ rfl;simp [aA] at j q r u F G H;simp [go_sem,j,q,r,u,F,G,H]
theorem nE:EN.Ok where
 hu:=Tryz.underlying27
 info:=by
  have h:=akm;cases j:Tryz.prog.info? 67 with
  | none=>rw [j] at h; cases h
  | some i =>
   rw [j] at h;simp only [aT,aQ,aX] at h;exact⟨i,j,h.1,h.2.1,h.2.2⟩
 zs:=rfl
 len:=fun _=>rfl
 one:=fun x q hu=>by
  simp only [EN,jE,aY,aR,or_false] at hu;rcases hu with rfl|rfl|rfl|rfl|rfl|rfl|rfl <;> rfl
 pos:=by decide
 few:=by decide
 load:=fun w p x h=>aeL w p x h
abbrev mF (W:Y) (v:aj) (l:List iY):Prop:=Row EN W v l
abbrev jJ (W:Y) (B:Nat) (v:aj) (l:List iY):Prop:=Own EN W B v l
theorem Qj {W:Y} {v:aj} {l:List iY} {r:OA} {n c k:Nat} {x:iY} (h:mF W v l) (H:v=ah r n c) (G:l.length=n) (F:l[k]?=J x) :
  ∃ p:bN,(∀ w,(aS 27 (ah r n c) (U O k)).run ak w=.ok (Z (J p)) w)/\∀ w,aL W.heap.size W w->w.cell? p=J (U O x.1)/\w.cell? ⟨p.block,p.off+1,ay⟩=J (U O x.2.1)/\w.cell? ⟨p.block,p.off+2,ay⟩=J (U O x.2.2.1)/\w.cell? ⟨p.block,p.off+3,ay⟩=J (U O x.2.2.2.1)/\w.cell? ⟨p.block,p.off+4,ay⟩=J (eu x.2.2.2.2.1)/\w.cell? ⟨p.block,p.off+5,ay⟩=J (U O x.2.2.2.2.2.1)/\w.cell? ⟨p.block,p.off+6,ay⟩=J (bF x.2.2.2.2.2.2):=by
 obtain⟨p,u,_,j⟩:=qR nE h H G F;exact⟨p,u,fun w q=>⟨by simpa [aA] using j w q 0 _ rfl,by simpa [aA] using j w q 1 _ rfl,by simpa [aA] using j w q 2 _ rfl,by simpa [aA] using j w q 3 _ rfl,by simpa [aA] using j w q 4 _ rfl,by simpa [aA] using j w q 5 _ rfl,by simpa [aA] using j w q 6 _ rfl⟩⟩
abbrev mP:=Int×Int×Sl
abbrev lN (x:mP):List aj:=[U O x.1,U O x.2.1,eu x.2.2]
abbrev zy (x:mP):aj:=bf #[U O x.1,U O x.2.1,eu x.2.2]
def EW:Ek mP:=⟨88,28,3,40,bf #[U O 0,U O 0,ah ay 0 0],zy,lN⟩
theorem akn:(Tryz.prog.info? 88).map (fun i=>(i.zero,i.size,i.bytes))=J (J (bf #[U O 0,U O 0,ah ay 0 0]),3,40):=by kernel_rfl
theorem ako (w:Y) (p:bN) (x:mP) (h:∀ u F,(lN x)[u]?=J F->w.cell? (p.add u)=J F):(aZ 88 (Z (J p))).run ak w=.ok (zy x) w:=by
 have j:=h 0 _ rfl;have q:=h 1 _ rfl;have r:=h 2 _ rfl;simp [aA] at j q r;simp [go_sem,j,q,r]
theorem okW:EW.Ok where
 hu:=Tryz.underlying28
 info:=by
  have h:=akn;cases j:Tryz.prog.info? 88 with
  | none=>rw [j] at h; cases h
  | some i =>
   rw [j] at h;simp only [aT,aQ,aX] at h;exact⟨i,j,h.1,h.2.1,h.2.2⟩
 zs:=rfl
 len:=fun _=>rfl
 one:=fun x q hu=>by
  simp only [EW,lN,aY,aR,or_false] at hu;rcases hu with rfl|rfl|rfl <;> rfl
 pos:=by decide
 few:=by decide
 load:=fun w p x h=>ako w p x h
abbrev Ij (W:Y) (v:aj) (l:List mP):Prop:=Row EW W v l
abbrev nO (W:Y) (B:Nat) (v:aj) (l:List mP):Prop:=Own EW W B v l
theorem elW {W:Y} {v:aj} {l:List mP} {r:OA} {n c k:Nat} {x:mP} (h:Ij W v l) (H:v=ah r n c) (G:l.length=n) (F:l[k]?=J x) :
  ∃ p:bN,(∀ w,(aS 28 (ah r n c) (U O k)).run ak w=.ok (Z (J p)) w)/\∀ w,aL W.heap.size W w->w.cell? p=J (U O x.1)/\w.cell? ⟨p.block,p.off+1,ay⟩=J (U O x.2.1)/\w.cell? ⟨p.block,p.off+2,ay⟩=J (eu x.2.2):=by
 obtain⟨p,u,_,j⟩:=qR okW h H G F;exact⟨p,u,fun w q=>⟨by simpa [aA] using j w q 0 _ rfl,by simpa [aA] using j w q 1 _ rfl,by simpa [aA] using j w q 2 _ rfl⟩⟩
structure Ad where
 id:Id
 p:List C5
 par:Int
structure En where
 tree:Id
 sub:Id
 p:List C5
 from_:Int
 up:Bool
structure Ow where
 id:Id
 p:List C5
structure Br where
 me:Int
 near:List Int
 dQ:List Ad
 seen:List Id
 ent:List En
 own:List Ow
def rP (W:Y) (x:ku) (a:Ad):Prop:=(x.1,x.2.1)=a.id/\x.2.2.2=a.par/\fO W (eu x.2.2.1) a.p
def jF (W:Y) (x:iY) (a:En):Prop:=(x.1,x.2.1)=a.tree/\(x.2.2.1,x.2.2.2.1)=a.sub/\x.2.2.2.2.2.1=a.from_/\x.2.2.2.2.2.2=a.up/\fO W (eu x.2.2.2.2.1) a.p
def xQ (W:Y) (x:mP) (a:Ow):Prop:=(x.1,x.2.1)=a.id/\fO W (eu x.2.2) a.p
theorem rP.on {W j:Y} {x:ku} {a:Ad} (h:rP W x a) (q:aL W.heap.size W j):rP j x a:=⟨h.1,h.2.1,h.2.2.on q⟩
theorem jF.on {W j:Y} {x:iY} {a:En} (h:jF W x a) (q:aL W.heap.size W j):jF j x a:=⟨h.1,h.2.1,h.2.2.1,h.2.2.2.1,h.2.2.2.2.on q⟩
theorem xQ.on {W j:Y} {x:mP} {a:Ow} (h:xQ W x a) (q:aL W.heap.size W j):xQ j x a:=⟨h.1,h.2.on q⟩
inductive eY {α β:Type} (R:α->β->Prop):List α->List β->Prop
 | nil:eY R [] []
 | cons {a b l m} (h:R a b) (t:eY R l m):eY R (a::l) (b::m)
theorem eY.mono {α q:Type} {R j:α->q->Prop} (h:∀ a b,R a b->j a b):∀ {l m},eY R l m->eY j l m
 | _,_,.nil=>.nil
 | _,_,.cons x t=>.cons (h _ _ x) (t.mono h)
theorem eY.len {α j:Type} {R:α->j->Prop}:∀ {l m},eY R l m->l.length=m.length
 | _,_,.nil=>rfl
 | _,_,.cons _ t=>by rw [bH,bH,t.len]
theorem eY.at {α j:Type} {R:α->j->Prop}:∀ {l m} (_:eY R l m) (k:Nat) (b:j),m[k]?=J b->∃ a,l[k]?=J a/\R a b
 | _,_,.nil,k,b,h=>by simp at h
 | _,_,.cons x t,0,b,h=>by
  simp at h;subst h;exact⟨_,rfl,x⟩
 | _,_,.cons x t,k+1,b,h=>by
  obtain⟨a,q,r⟩:=t.at k b (by simpa using h);exact⟨a,by simpa using q,r⟩
theorem eY.append {α j:Type} {R:α->j->Prop}:∀ {l m l' m'},eY R l m->eY R l' m'->eY R (l++l') (m++m')
 | _,_,_,_,.nil,h=>h
 | _,_,_,_,.cons x t,h=>.cons x (t.append h)
theorem eY.take {α j:Type} {R:α->j->Prop}:∀ {l m} (k:Nat),eY R l m->eY R (l.take k) (m.take k)
 | _,_,0,_=>by simp only [List.take_zero]; exact .nil
 | _,_,k+1,.nil=>by simp only [List.take_nil]; exact .nil
 | _,_,k+1,.cons x t=>.cons x (t.take k)
theorem eY.drop {α j:Type} {R:α->j->Prop}:∀ {l m} (k:Nat),eY R l m->eY R (l.drop k) (m.drop k)
 | _,_,0,h=>h
 | _,_,_+1,.nil=>.nil
 | _,_,k+1,.cons _ t=>t.drop k
structure iT (W:Y) (b:Br) (nv av sv ev ov:Sl):Prop where
 near:sW W (eu nv) b.near
 dQ:∃ l,zx W (eu av) l/\eY (rP W) l b.dQ
 seen:yL W (eu sv) b.seen
 ent:∃ l,mF W (eu ev) l/\eY (jF W) l b.ent
 own:∃ l,Ij W (eu ov) l/\eY (xQ W) l b.own
theorem iT.on {W u:Y} {b:Br} {G av I F H:Sl} (h:iT W b G av I F H) (j:aL W.heap.size W u):iT u b G av I F H where
 near:=h.near.on j
 dQ:=by obtain⟨l,q,r⟩:=h.dQ; exact⟨l,q.on j,r.mono fun _ _ h=>h.on j⟩
 seen:=h.seen.on j
 ent:=by obtain⟨l,q,r⟩:=h.ent; exact⟨l,q.on j,r.mono fun _ _ h=>h.on j⟩
 own:=by obtain⟨l,q,r⟩:=h.own; exact⟨l,q.on j,r.mono fun _ _ h=>h.on j⟩
abbrev mg (me:Int) (nv av sv ev ov:Sl):aj:=bf #[U O me,eu nv,eu av,eu sv,eu ev,eu ov]
abbrev jU (me:Int) (nv av sv ev ov:Sl):Array aj:=#[U O me,eu nv,eu av,eu sv,eu ev,eu ov]
def eT (a b:Id):Bool:=decide (a.1<b.1) || (a.1 == b.1 && decide (a.2<b.2))
def fQ:List Id->Id->Int
 | [],_=>-1
 | a::l,x=>if a=x then 0 else if fQ l x=-1 then -1 else fQ l x+1
def gu (l:List Id) (x:Id):Nat:=(l.takeWhile fun a=>eT a x).length
abbrev nP (x:Id):aj:=bf #[U O x.1,U O x.2]
theorem Sy:Tryz.prog.stoodInHeld 23=bG:=by kernel_rfl
theorem uL (a b c d:Int) (j:Bool) (h:(a == c && b == d)=j) (w:Y):(binOp .eql 23 (bf #[U O a,U O b]) (bf #[U O c,U O d])).run ak w=.ok (bF j) w:=by
 have st:=Sy;subst h;by_cases q:a=c <;> by_cases r:b=d <;> simp [go_sem,Tryz.underlying23,Tryz.underlying3,st,q,r]
theorem fP (w:Y) (o:Obj):aL w.heap.size w (w.alloc o):=(X _ _).alloc (aM _) _
theorem gX (w:Y) (c d:Array aj) (s t:bQ):aL w.heap.size w ((w.alloc (aP c s)).alloc (aP d t))/\dN ((w.alloc (aP c s)).alloc (aP d t)) w.heap.size c s/\dN ((w.alloc (aP c s)).alloc (aP d t)) (w.heap.size+1) d t:=by
 refine⟨((X _ _).alloc (aM _) _).alloc (by simp) _,(dR w c s).more _,?_⟩;have h:=dR (w.alloc (aP c s)) d t;simpa using h
theorem vN (x y:Id) (w:Y):cK ak 55 #[nP x,nP y] w fun e w'=>e=.returned (bF (eT x y))/\aL w.heap.size w w':=by
 obtain⟨a,b⟩:=x;obtain⟨c,d⟩:=y;obtain⟨q,r,u⟩:=gX w #[U O a,U O b] #[U O c,U O d] 23 23;have B:=hq q;obtain⟨a0,N⟩:=r.cs2;obtain⟨b0,S⟩:=u.cs2;have R:=hq (show eT (a,b) (c,d)=(decide (a<c) || (a == c && decide (b<d))) from rfl);generalize eT (a,b) (c,d)=j at *;obtain⟨I,F⟩:∃ j,decide (a<c)=j:=⟨_,rfl⟩;obtain⟨M,G⟩:∃ j,(a == c)=j:=⟨_,rfl⟩;obtain⟨T,H⟩:∃ j,decide (b<d)=j:=⟨_,rfl⟩;rw [F,G,H] at R;clear q r u;go_enter Tryz.func55,Tryz.ntmps55;cases I <;> cases M
 all_goals
  go_wp2;go_ret;exact⟨by rw [R.o]; simp,B.o⟩
theorem U9 (me:Int) (aE av T b1:aj) (b2:Sl) (l:List Id) (x:Id) (w:Y) (G:yL w (eu b2) l) :
  cK ak 160 #[bf #[U O me,aE,av,eu b2,T,b1],nP x] w fun e w'=>e=.returned (bF (decide (x∈l)))/\aL w.heap.size w w':=by
 obtain⟨c,d⟩:=x;obtain⟨M,bW,sc⟩:=b2;obtain⟨bA,b9,H⟩:=G.len;have H:ah M bW sc=ah bA l.length b9:=H;obtain⟨rfl,rfl,rfl⟩:M=bA/\bW=l.length/\sc=b9:=by simpa using H
 obtain⟨a1,r,bC⟩:=gX w #[U O me,aE,av,ah M l.length sc,T,b1] #[U O c,U O d] 30 23;have B:=hq a1;have b6:=hq (G.on a1);have bX:=hq r;have b8:=hq bC;have bO:=G.most;unfold maxLen at bO;obtain⟨n,a6⟩:∃ n,n=l.length:=⟨_,rfl⟩;have bT:=r.cell 3;simp only [aB,aD,aF] at bT;rw [<- a6] at b6 bX bO bT B b8 ⊢;have N:=hq a6.symm;clear a1 r bC G H a6;go_enter Tryz.func160,Tryz.ntmps160;go_upto_region 1 with fail;generalize (w.alloc (aP #[U O me,aE,av,ah M n sc,T,b1] 30)).alloc (aP #[U O c,U O d] 23)=W at *;go_wp2
 go_loopw [10] (fun i wr=>∃ k:Nat,k<=n/\i=U O k/\aL W.heap.size W wr/\∀ (j:Nat) (y:Id),j<k->l[j]?=J y->y≠(c,d)) (fun i _=>n-(intOf i).toNat)
 case atStart=>exact⟨0,bg _,rfl,X _ _,fun j y h=>by omega⟩
 case round =>
  obtain⟨k,cH,rfl,bM,bI⟩:=hrel;have q:=hq bM;have b4:=hq bI;clear bM bI;by_cases c9:k<n
  ·obtain⟨y,a8⟩:∃ y,l[k]?=J y:=⟨_,aC (by rw [N.o]; exact c9)⟩;obtain⟨p,cJ,bP⟩:=elJ b6.o rfl N.o a8;obtain⟨cC,cD⟩:=bP wr q.o;obtain⟨u,F⟩:=y;simp only at cC cD;have S:=hq (fP wr (aP #[U O u,U O F] 23));obtain⟨cL,cM⟩:=((b8.o.on q.o).on S.o).cs2;have cI:IntKind.i64.wrap ((k:Int)+1)=(k:Int)+1:=IntWalk.i64_in _ (by omega);obtain⟨I,a7⟩:∃ I,(u == c && F == d)=I:=⟨_,rfl⟩;have cG:=uL u F c d I a7;have b7:=hq a8;have b5:=hq a7;clear bP a8 a7;cases I
   ·go_wp2
    go_roundw
    case rel=>exact⟨k+1,by omega,by go_num,q.o.trans (S.o.mono q.o.size),fun j cF a2 r=>by
     rcases aI j k with bE|bE
     ·exact b4.o j cF bE r
     ·obtain rfl:j=k:=by omega
      have bB:=b7.o;rw [r] at bB;rw [aO bB];intro e;obtain⟨rfl,rfl⟩:u=c/\F=d:=by simpa using e
      have:=b5.o;simp at this⟩
    case measure=>simp [intOf]; omega
   ·go_wp2;go_ret;have c6:=b5.o;obtain⟨rfl,rfl⟩:u=c/\F=d:=by simpa using c6
    exact⟨by rw [decide_eq_true (List.mem_of_getElem? b7.o)]; rfl,B.o.trans ((q.o.trans (S.o.mono q.o.size)).mono B.o.size)⟩
  ·obtain rfl:k=n:=by omega
   go_wp2;go_ret;have c7:decide ((c,d)∈l)=bG:=decide_eq_false fun cA=>by
    obtain⟨j,a2,c8⟩:=List.getElem_of_mem cA;exact b4.o j (c,d) (by rw [<- N.o]; exact a2) (by rw [aC a2,c8]) rfl
   exact⟨by rw [c7]; rfl,B.o.trans (q.o.mono B.o.size)⟩
theorem tC:∀ (l:List Id) (x:Id),-1<=fQ l x
 | [],_=>by simp [fQ]
 | a::l,x=>by
  unfold fQ;have:=tC l x
  split
  ·omega
  ·split <;> omega
theorem Vb (l:List ku) (x:Id) (h:∀ (j:Nat) (y:ku),l[j]?=J y->(y.1,y.2.1)≠x):fQ (l.map fun y=>(y.1,y.2.1)) x=-1:=by
 induction l with
 | nil=>rfl
 | cons a l r =>
  rw [bD,fQ,if_neg (h 0 a rfl),r fun j y q=>h (j+1) y (by simpa using q),if_pos rfl]
theorem adg (l:List ku) (k:Nat) (x:Id) (y:ku) (h:l[k]?=J y) (u:(y.1,y.2.1)=x) (q:∀ (j:Nat) (z:ku),j<k->l[j]?=J z->(z.1,z.2.1)≠x):fQ (l.map fun y=>(y.1,y.2.1)) x=k:=by
 induction l generalizing k with
 | nil=>simp at h
 | cons a l G =>
  cases k with
  | zero =>
   obtain rfl:a=y:=by simpa using h
   rw [bD,fQ,if_pos u]
   rfl
  | succ k =>
   have r:=G k (by simpa using h) fun j z H F=>q (j+1) z (by omega) (by simpa using F);rw [bD,fQ,if_neg (q 0 a (by omega) rfl),r,if_neg (by omega)];omega
theorem wW (me:Int) (b1 a1 b4 b2:aj) (av:Sl) (l:List ku) (x:Id) (w:Y) (G:zx w (eu av) l) :
  cK ak 60 #[bf #[U O me,b1,eu av,b4,a1,b2],nP x] w fun e w'=>e=.returned (U O (fQ (l.map fun y=>(y.1,y.2.1)) x))/\aL w.heap.size w w':=by
 obtain⟨c,d⟩:=x;obtain⟨M,bW,sc⟩:=av;obtain⟨bA,b9,H⟩:=G.len;have H:ah M bW sc=ah bA l.length b9:=H;obtain⟨rfl,rfl,rfl⟩:M=bA/\bW=l.length/\sc=b9:=by simpa using H
 obtain⟨a2,r,bC⟩:=gX w #[U O me,b1,ah M l.length sc,b4,a1,b2] #[U O c,U O d] 30 23;have B:=hq a2;have b6:=hq (G.on a2);have bX:=hq r;have b8:=hq bC;have bO:=G.most;unfold maxLen at bO;obtain⟨n,a7⟩:∃ n,n=l.length:=⟨_,rfl⟩;have bT:=r.cell 2;simp only [aB,aD,aF] at bT;rw [<- a7] at b6 bX bO bT B b8 ⊢;have S:=hq a7.symm;clear a2 r bC G H a7;go_enter Tryz.func60,Tryz.ntmps60;go_upto_region 1 with fail;generalize (w.alloc (aP #[U O me,b1,ah M n sc,b4,a1,b2] 30)).alloc (aP #[U O c,U O d] 23)=W at *;go_wp2
 go_loopw [10] (fun i wr=>∃ k:Nat,k<=n/\i=U O k/\aL W.heap.size W wr/\∀ (j:Nat) (y:ku),j<k->l[j]?=J y->(y.1,y.2.1)≠(c,d)) (fun i _=>n-(intOf i).toNat)
 case atStart=>exact⟨0,bg _,rfl,X _ _,fun j y h=>by omega⟩
 case round =>
  obtain⟨k,cM,rfl,bM,bI⟩:=hrel;have q:=hq bM;have N:=hq bI;clear bM bI;by_cases c8:k<n
  ·obtain⟨y,aE⟩:∃ y,l[k]?=J y:=⟨_,aC (by rw [S.o]; exact c8)⟩;obtain⟨p,cP,bP⟩:=Mv b6.o rfl S.o aE;obtain⟨c9,cA,cC,cD⟩:=bP wr q.o;obtain⟨u,F,⟨cJ,cI,cH⟩,cG⟩:=y;simp only at c9 cA cC cD;have T:=hq (fP wr (aP #[U O u,U O F,ah cJ cI cH,U O cG] 36));obtain⟨cQ,cR⟩:=((b8.o.on q.o).on T.o).cs2;have cN:IntKind.i64.wrap ((k:Int)+1)=(k:Int)+1:=IntWalk.i64_in _ (by omega);obtain⟨I,a8⟩:∃ I,(u == c && F == d)=I:=⟨_,rfl⟩;have cL:=uL u F c d I a8;have b7:=hq aE;have b5:=hq a8;clear bP aE a8;cases I
   ·go_wp2
    go_roundw
    case rel=>exact⟨k+1,by omega,by go_num,q.o.trans (T.o.mono q.o.size),fun j cF a6 r=>by
     rcases aI j k with bE|bE
     ·exact N.o j cF bE r
     ·obtain rfl:j=k:=by omega
      have bB:=b7.o;rw [r] at bB;rw [aO bB];intro e;obtain⟨rfl,rfl⟩:u=c/\F=d:=by simpa using e
      have:=b5.o;simp at this⟩
    case measure=>simp [intOf]; omega
   ·go_wp2;go_ret;have c6:=b5.o;obtain⟨rfl,rfl⟩:u=c/\F=d:=by simpa using c6
    exact⟨by rw [adg l k (u,F) _ b7.o rfl N.o]; rfl,B.o.trans ((q.o.trans (T.o.mono q.o.size)).mono B.o.size)⟩
  ·obtain rfl:k=n:=by omega
   go_wp2;go_ret;have c7:fQ (l.map fun y=>(y.1,y.2.1)) (c,d)=-1:=Vb l (c,d) fun j y a6=>N.o j y (by rw [<- S.o]; exact (aH.1 a6).1) a6;exact⟨by rw [c7]; rfl,B.o.trans (q.o.mono B.o.size)⟩
end Bk
namespace Rg
open Go.RowKit
theorem wpOp_mono {P:Program} {ops:Array Oper} {Q:Exit->cu->Y->Prop} {i:Nat} {K r:cu->Y->Prop} {a:cu} {w:Y} (h:∀ a w,K a w->r a w) (j:wpOp P ops Q i K a w):wpOp P ops Q i r a w:=by
 unfold wpOp at j ⊢;cases u:ops[i]? with
 | none =>
  rw [u] at j;exact h _ _ j
 | some o =>
  rw [u] at j;simp only at j ⊢
  split at j
  ·rename_i q
   rw [if_pos q];rcases j with j|j
   ·exact aV (Oper.wp_mono h j)
   ·exact aJ j
  ·rename_i q
   rw [if_neg q];exact h _ _ j
def fU (P:Program) (ops:Array Oper) (Q:Exit->cu->Y->Prop):Nat->Nat->cu->Y->Prop
 | 0,_,a,w=>Q .normal a w
 | n+1,k,a,w=>wpOp P ops Q k (fun a w=>fU P ops Q n (k+1) a w) a w
structure aeM (i M:Nat) (dst last:Nat->Nat) (V:Nat->aj->Y->Prop) (base:cu) (o:Oper) (a:cu) (w:Y):Prop where
 kp:∀ j u,(∀ k,k<M->dst k≠j)->base.tmps[j]?=J u->a.eval (aG j)=u
 at_:∀ e∈o.after,au .any e=aU->(last e.on=i\/M<=last e.on)->V e.on (a.eval (aG (dst e.on))) w
 got:∀ e∈o.after,au .any e=aU->a.tmps[dst e.on]?=J (a.eval (aG (dst e.on)))
structure PhL (l:List Oper) (M:Nat) (dst last:Nat->Nat) (V:Nat->aj->Y->Prop) (base:cu) (w:Y) (L:Array Bool) (a:cu) (x:Y):Prop where
 no:∀ i,M<=i->¬ done L i
 cl:∀ i o,done L i->l[i]?=J o->∀ e∈o.after,au .any e=aU->done L e.on
 df:a.defers=base.defers
 sz:a.tmps.size=base.tmps.size
 kp:∀ j,(∀ i,i<M->dst i≠j)->a.tmps[j]?=base.tmps[j]?
 xY:aL w.heap.size w x
 val:∃ vs:Nat->aj,∀ i,i<M->done L i->a.tmps[dst i]?=J (vs i)/\(¬ done L (last i)->V i (vs i) x)
theorem gN {P:Program} {Q:Exit->cu->Y->Prop} {id:Nat} {base:cu} {w:Y} {l:List Oper} (N M:Nat) (S a8:Nat->Nat) (V:Nat->aj->Y->Prop)
  (cQ:P.follows .mixedOrders=aU) (c6:Qq l.toArray=aU) (cY:l.length=N) (cX:M<=N) (cP:∀ i j,i<M->j<M->S i=S j->i=j) (cT:∀ i,i<M->S i<base.tmps.size)
  (cR:∀ i o,i<M->l[i]?=J o->∀ a w' (D:Nat->Prop),¬ D i->(∀ j cC,D j->l[j]?=J cC->∀ e∈cC.after,au .any e=aU->D e.on)->(∀ e∈o.after,au .any e=aU->D e.on)->aL w.heap.size w w'->aeM i M S a8 V base o a w'->∀ K:cu->Y->Prop,(∀ v bA,V i v bA->aL w.heap.size w' bA->(∀ j u,j<M->D j->¬ D (a8 j)->a8 j≠i->j≠i->V j u w'->V j u bA)->K (a.put (J (S i)) v) bA)->wpOp P l.toArray Q i K a w')
  (cJ:M<N->∀ D:Nat->Prop,(∀ j o,D j->l[j]?=J o->∀ e∈o.after,au .any e=aU->D e.on)->(∀ o,l[M]?=J o->∀ e∈o.after,au .any e=aU->D e.on)->∀ i,i<M->D i)
  (c8:∀ k o,M<k->k<N->l[k]?=J o->∃ e∈o.after,au .any e=aU/\e.on=k-1)
  (c9:∀ a w',a.defers=base.defers->a.tmps.size=base.tmps.size->(∀ j,(∀ i,i<M->S i≠j)->a.tmps[j]?=base.tmps[j]?)->(∃ aE:Nat->aj,∀ i,i<M->a.tmps[S i]?=J (aE i)/\(M<=a8 i->V i (aE i) w'))->aL w.heap.size w w'->fU P l.toArray Q (N-M) M a w'):(Code.region id l.toArray aU).wp P Q base w:=by
 refine qX (fun L a x=>PhL l M S a8 V base w L a x\/∃ s,1<=s/\M+s<=N/\(∀ i,i<N->(done L i↔i<M+s))/\fU P l.toArray Q (N-M-s) (M+s) a x) cQ c6 ?_ ?_ ?_
 ·exact aV ⟨fun i _=>gQ _ _,fun i o h=>absurd h (gQ _ _),rfl,rfl,fun _ _=>rfl,(X _ _).drew,fun _=>.bool aU,fun i _ h=>absurd h (gQ _ _)⟩
 ·intro L a x i o d1 bT a6 bW b2;have cM:i<l.length:=(aH.1 a6).1;have b1:i<L.size:=by omega
  rcases bT with I|⟨s,cH,cI,b4,b7⟩
  ·rcases aI i M with bB|bB
   ·obtain⟨aE,a2⟩:=I.val;have b5:∀ e∈o.after,au .any e=aU->e.on<M:=fun e G T=>by
     have bX:=bJ.1 c6 i (bR.2 (by simpa using cM));have bI:(l.toArray)[i]?=J o:=by simpa using a6
     rw [bI] at bX;have b8:=Array.all_eq_true'.1 bX e G;rw [T] at b8;have:e.on<i:=by simpa using b8
     omega
    have seen:aeM i M S a8 V base o a x:=⟨fun j u bC hu=>dU (by rw [I.kp j bC]; exact hu),fun e G b9 a1=>by
     obtain⟨b6,bM⟩:=a2 e.on (b5 e G b9) (b2 e G b9);rw [dU b6];refine bM ?_;rcases a1 with a1|a1
     ·rw [a1]; exact bW
     ·exact I.no _ a1,fun e G b9=>by
     obtain⟨b6,bM⟩:=a2 e.on (b5 e G b9) (b2 e G b9);rw [dU b6];exact b6⟩
    refine cR i o bB a6 a x (done L) bW I.cl b2 I.xY seen _ fun v bA cU cL cS=>aV ?_;refine⟨fun k F H=>?_,fun k q F a7 e G T=>?_,I.df,by rw [size_put]; exact I.sz,fun j bC=>?_,I.xY.trans cL,fun k=>if k=i then v else aE k,fun k bE F=>?_⟩
    ·rcases (iJ b1 k).1 H with r|r
     ·omega
     ·exact I.no k F r
    ·rw [iJ b1] at F ⊢;rcases F with rfl|F
     ·rw [a7] at a6;cases a6;exact aJ (b2 e G T)
     ·exact aJ (I.cl k q F a7 e G T)
    ·rw [get_put _ _ _ _ (fun e=>bC i bB e.symm)];exact I.kp j bC
    ·by_cases e:k=i
     ·subst e;have:S k<a.tmps.size:=by rw [I.sz]; exact cT k bE
      simp only [if_true];exact⟨by simp [Act.put,this],fun _=>cU⟩
     ·simp only [if_neg e];rw [get_put _ _ _ _ (fun cG=>e (cP k i bE bB cG))];rcases (iJ b1 k).1 F with r|r
      ·exact absurd r e
      ·obtain⟨b6,bM⟩:=a2 k bE r;refine⟨b6,fun c7=>?_⟩;have cV:a8 k≠i:=fun bO=>c7 ((iJ b1 _).2 (aV bO));have cA:¬ done L (a8 k):=fun bO=>c7 ((iJ b1 _).2 (aJ bO));exact cS k _ bE r cA cV e (bM cA)
   ·have cF:i=M:=by
     rcases aI M i with r|r
     ·obtain⟨e,G,T,b5⟩:=c8 i o r (by omega) a6;have H:=b2 e G T;rw [b5] at H;exact absurd H (I.no _ (by omega))
     ·omega
    subst cF;have bP:=cJ (by omega) (done L) I.cl (fun d2 bI e G T=>by
     rw [a6] at bI;cases bI;exact b2 e G T)
    obtain⟨aE,a2⟩:=I.val;have a7:=c9 a x I.df I.sz I.kp ⟨aE,fun k F=>⟨(a2 k F (bP k F)).1,fun a1=>(a2 k F (bP k F)).2 (I.no _ a1)⟩⟩ I.xY;rw [show N-i=(N-i-1)+1 by omega] at a7;refine wpOp_mono (fun cD cW h=>aJ ⟨1,aM _,by omega,fun k F=>?_,h⟩) a7;rw [iJ b1];constructor
    ·rintro (rfl|r)
     ·omega
     ·rcases aI k i with b8|b8
      ·omega
      ·exact absurd r (I.no k b8)
    ·intro r;by_cases e:k=i
     ·exact aV e
     ·exact aJ (bP k (by omega))
  ·have d0:M+s<=i:=by
    rcases aI i (M+s) with r|r
    ·exact absurd ((b4 i (by omega)).2 r) bW
    ·exact r
   have cN:i=M+s:=by
    rcases aI (M+s) i with r|r
    ·obtain⟨e,G,T,b5⟩:=c8 i o (by omega) (by omega) a6;have H:=b2 e G T;rw [b5] at H;have:=(b4 (i-1) (by omega)).1 H;omega
    ·omega
   subst cN;rw [show N-M-s=(N-M-(s+1))+1 by omega] at b7;refine wpOp_mono (fun cD cW h=>aJ ⟨s+1,by omega,by omega,fun k F=>?_,h⟩) b7;rw [iJ b1];constructor
   ·rintro (rfl|r)
    ·omega
    ·have:=(b4 k F).1 r;omega
   ·intro r;by_cases e:k=M+s
    ·exact aV e
    ·exact aJ ((b4 k F).2 (by omega))
 ·intro L a x bT H;rcases bT with I|⟨s,cH,cI,b4,b7⟩
  ·rcases aI M N with r|r
   ·exact absurd (H M (by omega)) (I.no M (aM _))
   ·obtain⟨aE,a2⟩:=I.val;have a7:=c9 a x I.df I.sz I.kp ⟨aE,fun k F=>⟨(a2 k F (H k (by omega))).1,fun a1=>(a2 k F (H k (by omega))).2 (I.no _ a1)⟩⟩ I.xY;rw [show N-M=0 by omega] at a7;exact a7
  ·have:=(b4 (N-1) (by omega)).1 (H (N-1) (by omega));rw [show N-M-s=0 by omega] at b7;exact b7
theorem gq {P:Program} {ops:Array Oper} {Q:Exit->cu->Y->Prop} {K:cu->Y->Prop} {a:cu} {w w':Y} {i:Nat} {o:Oper} (t:bQ) (x y:cB) {p v:aj}
  (r:ops[i]?=J o) (q:o.guard=ay) (u:o.op=.store t x y) (j:o.dst=ay) (G:a.eval x=p) (H:a.eval y=v) (F:(Instr.storeAt t p v).run P w=.ok () w') (h:K a w'):wpOp P ops Q i K a w:=by
 refine ade r q (XV a.eval o t x y u (by rw [G,H]; exact F)) ?_;rw [j];exact h
def KJ (l:List Oper) (i:Nat):List Nat:=match l[i]? with
 | some o=>(o.after.toList.filter fun e=>au .any e).map fun e=>e.on
 | none=>[]
def Qw (l:List Oper):Nat->List Nat->List Nat
 | 0,s=>s
 | n+1,s=>Qw l n (s++s.flatMap (KJ l))
theorem Sz {l:List Oper} {D:Nat->Prop} {i:Nat} (h:∀ o,l[i]?=J o->∀ e∈o.after,au .any e=aU->D e.on):∀ r∈KJ l i,D r:=by
 intro r j;unfold KJ at j;cases q:l[i]? with
 | none=>rw [q] at j; cases j
 | some o =>
  rw [q] at j;obtain⟨e,G,rfl⟩:=List.mem_map.1 j;obtain⟨u,F⟩:=List.mem_filter.1 G;exact h o q e (Array.mem_toList_iff.1 u) F
theorem M9 {l:List Oper} {D:Nat->Prop} (r:∀ j o,D j->l[j]?=J o->∀ e∈o.after,au .any e=aU->D e.on):∀ n s,(∀ j∈s,D j)->∀ j∈Qw l n s,D j
 | 0,_,q=>q
 | n+1,s,q=>M9 r n _ fun j G=>by
  rcases List.mem_append.1 G with h|h
  ·exact q j h
  ·obtain⟨i,F,u⟩:=List.mem_flatMap.1 h;exact Sz (fun o H=>r i o (q i F) H) j u
theorem kJ {l:List Oper} {j:Nat} (n:Nat) (h:(List.range j).all (fun i=>(Qw l n (KJ l j)).contains i)=aU) (D:Nat->Prop) (u:∀ q o,D q->l[q]?=J o->∀ e∈o.after,au .any e=aU->D e.on) (G:∀ o,l[j]?=J o->∀ e∈o.after,au .any e=aU->D e.on):∀ i,i<j->D i:=by
 intro i F;have r:=bJ.1 h i (bR.2 F);exact M9 u n _ (Sz G) i (List.contains_iff_mem.1 r)
theorem zA {P:Program} (r:cB->aj) (o:Oper) (t:bQ) (j:o.op=.alloc t) {v:aj} {w w':Y} (q:(Instr.alloc t aU (.tuple #[])).run P w=.ok v w'):(execOp r o).run P w=.ok (.value v) w':=by
 simp [execOp,j,q,Result.andThen]
end Rg
namespace Rw
open Go.RowKit
theorem iI {α:Type} {E:Ek α} (K:E.Ok) {w:Y} (B:Nat) {g:Nat} {x:aj} {m:List α} (q:dN w g #[] E.t) (a6:B<=g) (a2:Row E w x m) (T:m.length<=1000) (F:bQ) :
  ∃ H w',(Builtin.append_ #[E.ts,E.ts] F #[ah (J ⟨g,0,ay⟩) 0 0,x]).run ak w=.ok H w'/\Own E w' B H m/\aL w.heap.size w w':=by
 have a1:Own E w B (ah (J ⟨g,0,ay⟩) 0 0) ([]:List α):=pF K rfl a6 q (aM _) (bg _) (by simp) (by simp [flat]);have b8:=q.lt;obtain⟨H,w',r,b2,b4⟩:=iC K B a1 a2 (by simp) T (by omega) F;refine⟨H,w',r,by simpa using b2,?_⟩;obtain⟨i,I,aE,i3,b1⟩:=K.info;rcases a2 with⟨rfl,rfl⟩|⟨M,c,rfl,b5,b6,N⟩
 ·have u:=run_append_owned_none (P:=ak) (w:=w) B E.ts F E.t i E.n K.hu I _ _ _ a1;rw [u] at r;injection r with _ e
  rw [<- e];exact X _ _
 ·rcases Nat.eq_zero_or_pos m.length with G|G
  ·have u:=run_append_room (P:=ak) (w:=w) E.ts F E.t i K.hu I g 0 0 #[] q M m.length c (flat E m) (by rw [eO K,i3]) N (oH K m) (by omega) (by rw [eO K,G]; simp);rw [u] at r;injection r with _ e
   rw [<- e];have a7:flat E m=[]:=List.eq_nil_of_length_eq_zero (by rw [eO K,G]; simp);have a8:=dN.set q ((#[]:Array aj).toList.take (0 * i.size)++flat E m++(#[]:Array aj).toList.drop (0 * i.size+(flat E m).length)).toArray;refine⟨rfl,rfl,rfl,by simp [World.setRow],fun k b7=>?_⟩;by_cases S:k=g
   ·subst S;refine a8.trans ?_;rw [a7];simpa using q.symm
   ·exact setRow_other w g k _ S
  ·have u:=run_append_grow (P:=ak) (w:=w) E.ts F E.t i E.z K.hu I aE ⟨g,0,ay⟩ 0 0 [] (by simp) (fun j v h=>by simp at h) M m.length c (flat E m) (by rw [eO K,i3]) N (by omega) (by omega) (by
    rw [Nat.zero_add,nextslicecap_zero G,b1];exact bY (Nat.mul_le_mul T K.few) (by decide))
   rw [u] at r;injection r with _ e
   rw [<- e];exact (X _ _).drew.alloc (aM _) _
end Rw
namespace Bk
open Go.RowKit Rw
theorem dO {α:Type} {E:Ek α} {W:Y} {B C:Nat} {v:aj} {l:List α} (h:Own E W B v l) (u:C<=B):Own E W C v l:=by
 refine⟨h.1,?_⟩;rcases h.2 with j|⟨g,cap,cur,q,j,r⟩
 ·exact aV j
 ·exact aJ ⟨g,cap,cur,q,bY u j,r⟩
theorem dK {α:Type} {E:Ek α} {W q:Y} {B:Nat} {v:aj} {l:List α} (h:Own E W B v l) (j:aL W.heap.size W q):Own E q B v l :=
 h.kept (w':=q) (row:=ay) ⟨j.os,j.tape,j.output,j.size,fun k r _=>j.block k r⟩ (by cases v.ownBlock <;> simp)
theorem eF {α:Type} {E:Ek α} {W:Y} {B:Nat} {v:aj} {l:List α} (h:Own E W B v l) (b k:Nat) (x:aj) (F:b<B):Own E (W.setCell ⟨b,k,ay⟩ x) B v l :=
 h.kept (w':=W.setCell ⟨b,k,ay⟩ x) (row:=J b) ⟨rfl,rfl,rfl,by simp [World.setCell],fun j _ q=>aN _ _ _ _ (fun e=>q (by rw [e]))⟩ (by
  cases r:v.ownBlock with
  | none=>exact aV rfl
  | some j =>
   refine aJ fun e=>?_;injection e with e
   have u:=(h.lt j r).1;omega)
theorem add_one (x y:cB) (t:bQ) (w:Y) (k:Nat) (j:k<=900):(do eqGuard .add t x y (U O k) (U O 1); binOp .add t (U O k) (U O 1):Sem aj).run ak w=.ok (U O ((k:Int)+1)) w:=by
 have h:IntKind.i64.wrap ((k:Int)+1)=(k:Int)+1:=IntWalk.i64_in _ (by omega);simp [eqGuard,binOp,Op.intArith,go_sem,h]
theorem eD {W:Y} {j k:Nat} {cs:Array aj} {t:bQ} (h:dN W j cs t) (x:aj):dN (W.setCell ⟨j,k,ay⟩ x) j (cs.setIfInBounds k x) t:=heap_setCell_same W j k cs t x h
end Bk
namespace At
open Go.RowKit Va In
def nm (i:Nat):ByteArray:=⟨#[UInt8.ofNat (97+i)]⟩
def zu:Array aj:=#[aW ⟨#[97]⟩,aW ⟨#[98]⟩,aW ⟨#[99]⟩,aW ⟨#[100]⟩,aW ⟨#[101]⟩,aW ⟨#[102]⟩,aW ⟨#[103]⟩]
def vM (zs:List Int) (i:Nat):Int:=if zs=[] then 0 else zs.getD (i % zs.length) 0
def odd (z:Int):Bool:=bits BinOp.and O z 1 == 1
end At
namespace At
open Go.RowKit Go.Sort Va In
def ru:List A4->List A4->Bool
 | [],[]=>aU
 | x::l,y::m=>Qv x y && ru l m
 | _,_=>bG
theorem IZ:∀ l m,ru l m=aU->l.length=m.length
 | [],[],_=>rfl
 | x::l,y::m,h=>by
  simp only [ru,bK] at h;simp [IZ l m h.2]
 | [],y::m,h=>by simp [ru] at h
 | x::l,[],h=>by simp [ru] at h
theorem I4:∀ l m,l.length=m.length->(∀ (k:Nat) (x y:A4),l[k]?=J x->m[k]?=J y->Qv x y=aU)->ru l m=aU
 | [],[],_,_=>rfl
 | x::l,y::m,j,h=>by
  simp only [ru,bK];exact⟨h 0 x y rfl rfl,I4 l m (by simpa using j) (fun k a b q r=>h (k+1) a b (by simpa using q) (by simpa using r))⟩
 | [],y::m,j,_=>by simp at j
 | x::l,[],j,_=>by simp at j
theorem I5:∀ (l m:List A4) (k:Nat) (x y:A4),l[k]?=J x->m[k]?=J y->Qv x y=bG->ru l m=bG
 | [],_,k,x,y,h,_,_=>by simp at h
 | _::_,[],k,x,y,_,h,_=>by simp at h
 | a::l,b::m,0,x,y,j,q,r=>by
  simp at j q;subst j q;simp [ru,r]
 | a::l,b::m,k+1,x,y,j,q,r=>by
  simp only [ru,I5 l m k x y (by simpa using j) (by simpa using q) r,Bool.and_false]
theorem I6 {W:Y} {N:aj} {l:List A4} {u:OA} {n c k:Nat} {x:A4} (h:U0 W N l) (a6:N=ah u n c) (aE:l.length=n) (H:l[k]?=J x) :
  ∃ p:bN,(∀ w,(aS 41 (ah u n c) (U O k)).run ak w=.ok (Z (J p)) w)/\∀ w,Below W.heap.size W w ->
   w.cell? p=J (aW x.1)/\w.cell? ⟨p.block,p.off+1,ay⟩=J (bF x.2.1)/\w.cell? ⟨p.block,p.off+2,ay⟩=J (U O x.2.2.1)/\w.cell? ⟨p.block,p.off+3,ay⟩=J (aW x.2.2.2):=by
 have a2:=(aH.1 H).1;rcases h with⟨rfl,_⟩|⟨a,cap,I,a7,a8,S⟩
 ·simp at H
 ·rw [a6] at I;obtain⟨rfl,rfl,rfl⟩:u=J a/\n=l.length/\c=cap:=by simpa using I
  refine⟨a.add (k * 4),fun w=>Qu a k _ _ a2 w,fun w a1=>?_⟩;have q:=M0 l k x H;have F:∀ j,j≠0->(⟨(a.add (k * 4)).block,(a.add (k * 4)).off+j,ay⟩:bN)=a.add (k * 4+j):=fun j G=>by
   have T:∀ b:bN,b.add j=⟨b.block,b.off+j,ay⟩:=fun b=>by unfold aA; rw [if_neg G]
   rw [<- add_add,T]
  have g:∀ j r,(Et l)[j]?=J r->w.cell? (a.add j)=J r:=fun j r G=>by
   have M:=S j r G;rw [a1.cell (World.block_lt_of_cell? W _ M)]; exact M
  rw [F 1 (by decide),F 2 (by decide),F 3 (by decide)];exact⟨g _ _ q.1,g _ _ q.2.1,g _ _ q.2.2.1,g _ _ q.2.2.2⟩
theorem Vd (bO b7:aj) (l m:List A4) (w:Y) (a1:U0 w bO l) (a2:U0 w b7 m) (cP:l.length<=1000000) (_:m.length<=1000000) :
  cK ak 127 #[bO,b7] w fun e w'=>e=.returned (bF (ru l m))/\Below w.heap.size w w':=by
 have bP:=hq a1;have b2:=hq a2;obtain⟨cI,cH,rfl⟩:=a1.len;obtain⟨cL,cJ,rfl⟩:=a2.len;clear a1 a2;by_cases G:l.length=m.length
 ·have S:=hq G;rw [<- G] at b2 ⊢;generalize bI:l.length=n at *;have M:=hq bI;clear G bI;go_enter bZ,bS;go_wp2
  go_loopw [5] (fun i wr=>∃ k:Nat,k<=n/\i=U O k/\Below w.heap.size w wr/\∀ (j:Nat) (x y:A4),j<k->l[j]?=J x->m[j]?=J y->Qv x y=aU) (fun i _=>n-(intOf i).toNat)
  case atStart=>exact⟨0,bg _,rfl,X _ _,fun j x y h=>by omega⟩
  case round =>
   obtain⟨k,cN,rfl,bC,bB⟩:=hrel;have u:=hq bC;have b1:=hq bB;clear bC bB;by_cases bE:k<n
   ·obtain⟨x,a7⟩:∃ x,l[k]?=J x:=⟨_,aC (by rw [M.o]; exact bE)⟩;obtain⟨y,a8⟩:∃ y,m[k]?=J y:=⟨_,aC (by rw [<- S.o]; exact bE)⟩;obtain⟨p,bT,H⟩:=I6 bP.o rfl M.o a7;obtain⟨q,bW,I⟩:=I6 b2.o rfl S.o.symm a8;have bX:=aK (H _ u.o).1;have c6:=aK (H _ u.o).2.1;have c7:=aK (H _ u.o).2.2.1;have c8:=aK (H _ u.o).2.2.2;have c9:=aK (I _ u.o).1;have cA:=aK (I _ u.o).2.1;have cC:=aK (I _ u.o).2.2.1;have cD:=aK (I _ u.o).2.2.2;clear H I;obtain⟨r,a6⟩:∃ r,Qv x y=r:=⟨_,rfl⟩;have bM:=anO x y r a6;have b5:=hq a7;have b6:=hq a8;have b4:=hq a6;clear a7 a8 a6;cases r
    ·have R:=hq (show ru l m=bG from I5 l m k x y b5.o b6.o b4.o);go_wp2;refine ko ?_
     repeat (go_big_quiet_step (fail))
     refine kr fun T aE=>?_;go_wp2;go_ret;exact⟨eG R.o.symm,u.o.trans ((bU wr T aE).mono u.o.size)⟩
    ·go_wp2;refine ko ?_
     repeat (go_big_quiet_step (fail))
     refine kr fun T aE=>?_;clear bT bW bX c6 c7 c8 c9 cA cC cD bM;go_wp2
     go_roundw
     case rel=>exact⟨k+1,by omega,by go_num,u.o.trans ((bU wr T aE).mono u.o.size),fun j cF cG cM F N=>by
      rcases aI j k with bA|bA
      ·exact b1.o j cF cG bA F N
      ·obtain rfl:j=k:=by omega
       have b8:=b5.o;have b9:=b6.o;rw [F] at b8;rw [N] at b9;rw [aO b8,aO b9];exact b4.o⟩
     case measure=>simp [intOf]; omega
   ·obtain rfl:k=n:=by omega
    have R:=hq (show ru l m=aU from I4 l m (by rw [M.o]; exact S.o) (fun j a b F N=>b1.o j a b (by have:=(aH.1 F).1; have:=M.o; omega) F N));go_wp2;go_ret;exact⟨eG R.o.symm,u.o⟩
 ·have R:=hq (show ru l m=bG by
   cases h:ru l m
   ·rfl
   ·exact absurd (IZ _ _ h) G)
  have bM:(((l.length:Nat):Int) != ((m.length:Nat):Int))=aU:=by simp; omega
  have cQ:(((l.length:Nat):Int) == ((m.length:Nat):Int))=bG:=by simp; omega
  clear G;go_enter bZ,bS;go_wp2;go_ret;exact⟨eG R.o.symm,X _ _⟩
def DL (c:UInt8):Bool:=decide (97<=c.toNat) && decide (c.toNat<=122)
def lV (s:ByteArray):Bool:=s.data.toList.all DL && (decide (1<=s.size) && decide (s.size<=12))
end At
namespace Bk
open Go.RowKit Rw YtghlpefopidlaaaGreat.Nm Pr
def SE (B j b3:Nat) (r:OA) (q sc at_:Nat) (lo u:aj) (z:fB) (lt F:List fB) (i:Nat) (v:aj) (x:Y):Prop :=
 match i with
 | 0=>∃ g,v=ah (J ⟨g,0,ay⟩) 0 0/\B<=g/\dN x g #[] 23
 | 1=>v=Z (J ⟨j,3,ay⟩)
 | 2=>v=ah r q sc
 | 3=>v=U O (at_:Int)
 | 4=>v=lo
 | 5=>tq x B v lt
 | 6=>v=Z (J ⟨b3,0,ay⟩)
 | 7=>v=X8 z
 | 8=>tq x B v [z]
 | 9=>tq x B v (lt++[z])
 | 10=>v=Z (J ⟨j,3,ay⟩)
 | 11=>v=ah r q sc
 | 12=>v=U O (at_:Int)
 | 13=>v=u
 | 14=>tq x B v (lt++[z]++F)
 | 15=>v=Z (J ⟨j,3,ay⟩)
 | _=>True
noncomputable def aeN:Code:=((Tryz.f118.body.bind (eX 6)).getD .skip)
theorem Ya (B q b3:Nat) (G:OA) (F sc at_:Nat) (lo r:aj) (z:fB) (lt u:List fB) (i:Nat) (v:aj) (x H:Y) (h:SE B q b3 G F sc at_ lo r z lt u i v x) (j:aL x.heap.size x H):SE B q b3 G F sc at_ lo r z lt u i v H:=by
 by_cases S:i<16
 ·rcases (by omega:i=0\/i=1\/i=2\/i=3\/i=4\/i=5\/i=6\/i=7\/i=8\/i=9\/i=10\/i=11\/i=12\/i=13\/i=14\/i=15) with rfl|rfl|rfl|rfl|rfl|rfl|rfl|rfl|rfl|rfl|rfl|rfl|rfl|rfl|rfl|rfl
  ·obtain⟨g,I,M,N⟩:=h;exact⟨g,I,M,N.on j⟩
  ·exact h
  ·exact h
  ·exact h
  ·exact h
  ·exact dK h j
  ·exact h
  ·exact h
  ·exact dK h j
  ·exact dK h j
  ·exact h
  ·exact h
  ·exact h
  ·exact h
  ·exact dK h j
  ·exact h
 ·unfold SE
  split <;> first | omega | trivial
theorem anS (Q:Exit->cu->Y->Prop) (W:Y) (q b3:Nat) (me:Int) (gO gR gS h0:aj) (S:OA) (N sc at_:Nat) (l:List fB) (z:fB) {bT bW cQ cW u7 eB u9 bX u11 c6 u13 c7 c8 c9 cA cC cD cF cG cH cI cJ cL cM cN cP fX fY g0 g1 g2 g3 g4 g5 g6 g7 g8 g9 gA gC gE gI cR cS cT cU cV cX cY d0 d1 d2 d3 d4 d5 d6 d7 d8 d9 dA dC dE dS dT dZ e0 e1 e2 e3 e4 e5 e6 e7 e8 e9 eA:aj}
  (b5:dN W q #[U O me,gO,gR,ah S N sc,gS,h0] 30) (fR:∀ x,aL W.heap.size W x->∀ j u,(kZ z)[j]?=J u->x.cell? ((⟨b3,0,ay⟩:bN).add j)=J u) (bE:yL W (ah S N sc) l) (f9:at_<=l.length) (hT:l.length<=900)
  (f8:∀ (x:Y) (eC eE eI eJ eK eL eM eN eQ eR eS v40 eV eW T f0:aj),dN x q #[U O me,gO,gR,T,gS,h0] 30->tq x W.heap.size T (l.take at_++[z]++l.drop at_)->(∀ B,B<=q->aL B W x)->(∀ c cs t,c≠q->dN W c cs t->dN x c cs t)->(∀ k,k<W.heap.size->k≠q->x.heap[k]?=W.heap[k]?)->Q .normal ⟨(bT::bW::Z (J ⟨q,0,ay⟩)::Z (J ⟨b3,0,ay⟩)::cQ::cW::U O (at_:Int)::u7::eB::u9::bX::u11::c6::u13::c7::c8::c9::cA::cC::cD::cF::cG::cH::cI::cJ::cL::cM::cN::cP::eC::eE::eI::eJ::eK::eL::eM::eN::eQ::eR::eS::v40::eV::eW::T::f0::cR::cS::cT::cU::cV::cX::cY::d0::d1::d2::d3::d4::d5::d6::d7::d8::d9::dA::dC::dE::dS::dT::dZ::e0::e1::e2::e3::e4::e5::e6::e7::e8::e9::eA::[]).toArray,[]⟩ x) :
  Code.wp ak aeN Q ⟨(bT::bW::Z (J ⟨q,0,ay⟩)::Z (J ⟨b3,0,ay⟩)::cQ::cW::U O (at_:Int)::u7::eB::u9::bX::u11::c6::u13::c7::c8::c9::cA::cC::cD::cF::cG::cH::cI::cJ::cL::cM::cN::cP::fX::fY::g0::g1::g2::g3::g4::g5::g6::g7::g8::g9::gA::gC::gE::gI::cR::cS::cT::cU::cV::cX::cY::d0::d1::d2::d3::d4::d5::d6::d7::d8::d9::dA::dC::dE::dS::dT::dZ::e0::e1::e2::e3::e4::e5::e6::e7::e8::e9::eA::[]).toArray,[]⟩ W:=by
 have f3:=hq f8;have b4:=hq b5;have h3:=hq fR;obtain⟨lo,f4,h1⟩:=yK Eu bE at_ (by omega);obtain⟨b6,f5,f2⟩:=qU Eu bE (at_) f9;have f6:=hq (show (l.take at_).length<=1000 by rw [bL]; omega);have h8:=hq (show (l.take at_).length<=900 by rw [bL]; omega);have h2:=hq (show (l.drop (at_)).length<=1000 by rw [List.length_drop]; omega);generalize l.take at_=lt at *;generalize l.drop (at_)=b8 at *;have h7:=hq f4;have h6:=hq f5;have h5:=hq h1;have h4:=hq f2;clear f8 b5 fR bE f4 f5 h1 f2 f9 hT;have bI:=Ya W.heap.size q b3 S N sc at_ lo b6 z lt b8;unfold aeN
 conv=>arg 2; whnf
 have nd:∀ j,(j<29\/45<=j)->∀ i,i<16->(fun i=>29+i) i≠j:=by
  intro j M i fN h;simp only at h;omega
 refine Rg.gN 17 16 (fun i=>29+i) (fun i=>if i=0 then 5 else if i=5 then 9 else if i=8 then 9 else if i=9 then 14 else 16) (SE W.heap.size q b3 S N sc at_ lo b6 z lt b8) (by kernel_rfl) (by kernel_rfl) rfl (by decide) (fun i j _ _ h=>by have b5:29+i=29+j:=h; omega) (fun i fN=>by show 29+i<79; omega) ?_ (fun _=>Rg.kJ 1 (by kernel_rfl)) (fun i4 o i2 b5=>by omega) ?_
 ·intro i o fN H a x D hV a7 a2 F seen K G;clear f3;rcases (by omega:i=0\/i=1\/i=2\/i=3\/i=4\/i=5\/i=6\/i=7\/i=8\/i=9\/i=10\/i=11\/i=12\/i=13\/i=14\/i=15) with rfl|rfl|rfl|rfl|rfl|rfl|rfl|rfl|rfl|rfl|rfl|rfl|rfl|rfl|rfl|rfl
  ·cases H;exact Rg.dI rfl rfl (Rg.iX a.eval _ 26 0 #[] rfl rfl (by simp [go_sem])) (G (ah (J ⟨x.heap.size,0,ay⟩) 0 0) (x.alloc (aP #[] 23)) ⟨x.heap.size,rfl,F.size,dR x #[] 23⟩ ((X _ _).alloc F.size _) fun j u _ _ _ _ _ h=>bI j u _ _ h ((X _ _).alloc (aM _) _))
  ·cases H;have a1:a.eval (aG 2)=Z (J ⟨q,0,ay⟩):=seen.kp 2 _ (nd 2 (by omega)) rfl;exact Rg.dI rfl rfl (Rg.dY a.eval _ 30 (aG 2) 3 rfl (by rw [a1]; simp [go_sem])) (G _ _ rfl (X _ _) fun _ _ _ _ _ _ _ h=>h)
  ·cases H;have hC:a.eval (aG 30)=Z (J ⟨q,3,ay⟩):=seen.at_ ⟨1,.data⟩ (by simp) rfl (aJ (by decide));have y:=(b4.o.on F).cell 3;simp only [aB,aD,aF] at y;exact Rg.dI rfl rfl (Rg.dW a.eval _ 26 (aG 30) rfl (by rw [hC]; simp [go_sem,y])) (G _ _ rfl (X _ _) fun _ _ _ _ _ _ _ h=>h)
  ·cases H;have bB:a.eval (aG 6)=U O (at_:Int):=seen.kp 6 _ (nd 6 (by omega)) rfl;exact Rg.dI rfl rfl (Rg.gF a.eval _ (aG 6) rfl x) (G _ _ bB (X _ _) fun _ _ _ _ _ _ _ h=>h)
  ·cases H;have hD:a.eval (aG 31)=ah S N sc:=seen.at_ ⟨2,.data⟩ (by simp) rfl (aJ (by decide));have hE:a.eval (aG 32)=U O (at_:Int):=seen.at_ ⟨3,.data⟩ (by simp) rfl (aJ (by decide));exact Rg.dI rfl rfl (Rg.lW a.eval _ 26 (aG 31) ay (J (aG 32)) ay rfl (by show (bV 26 (a.eval (aG 31)) ay (J (a.eval (aG 32))) ay).run ak x=.ok lo x; rw [hD,hE]; exact h7.o x)) (G _ _ rfl (X _ _) fun _ _ _ _ _ _ _ h=>h)
  ·cases H;obtain⟨g,bP,hP,a6⟩:=seen.at_ ⟨0,.data⟩ (by simp) rfl (aV rfl);have bP:a.eval (aG 29)=ah (J ⟨g,0,ay⟩) 0 0:=bP;have hF:a.eval (aG 33)=lo:=seen.at_ ⟨4,.data⟩ (by simp) rfl (aJ (by decide));obtain⟨b1,b2,r,aE,I⟩:=iI Eu W.heap.size a6 hP (h5.o.on F) f6.o 26;exact Rg.dI rfl rfl (Rg.gV a.eval _ (aG 29) (aG 33) 26 rfl bP hF r) (G b1 b2 aE (I.mono F.size) fun j u _ _ _ _ _ h=>bI j u _ _ h I)
  ·cases H;have hA:a.eval (aG 3)=Z (J ⟨b3,0,ay⟩):=seen.kp 3 _ (nd 3 (by omega)) rfl;exact Rg.dI rfl rfl (Rg.dY a.eval _ 36 (aG 3) 0 rfl (by rw [hA]; simp [go_sem])) (G _ _ rfl (X _ _) fun _ _ _ _ _ _ _ h=>h)
  ·cases H;have hG:a.eval (aG 35)=Z (J ⟨b3,0,ay⟩):=seen.at_ ⟨6,.data⟩ (by simp) rfl (aJ (by decide));exact Rg.dI rfl rfl (Rg.dW a.eval _ 23 (aG 35) rfl (by rw [hG]; exact IY x _ z (h3.o x F))) (G _ _ rfl (X _ _) fun _ _ _ _ _ _ _ h=>h)
  ·cases H;have hH:a.eval (aG 36)=X8 z:=seen.at_ ⟨7,.data⟩ (by simp) rfl (aJ (by decide));have bC:=jL Eu x [z] 1 rfl (by simp) (kZ z).toArray (by simp [flat,EJ]);have bC:tq (x.alloc (aP (kZ z).toArray 23)) x.heap.size (ah (J ⟨x.heap.size,0,ay⟩) 1 1) [z]:=bC;exact Rg.dI rfl rfl (Rg.iX a.eval _ 26 1 #[(0,aG 36)] rfl (ps:=#[(0,X8 z)]) (by simp [hH]) (by simp [go_sem])) (G (ah (J ⟨x.heap.size,0,ay⟩) 1 1) (x.alloc (aP (kZ z).toArray 23)) (dO bC F.size) ((X _ _).alloc F.size _) fun j u _ _ _ _ _ h=>bI j u _ _ h ((X _ _).alloc (aM _) _))
  ·cases H;have fS:tq x W.heap.size (a.eval (aG 34)) (lt):=seen.at_ ⟨5,.data⟩ (by simp) rfl (aV rfl);have hY:tq x W.heap.size (a.eval (aG 37)) ([z]):=seen.at_ ⟨8,.data⟩ (by simp) rfl (aV rfl);have bO:=Row.dL hY;obtain⟨b1,b2,r,aE,I⟩:=iC Eu W.heap.size fS bO (by have:=f6.o; omega) (by simp) F.size 26;exact Rg.dI rfl rfl (Rg.gV a.eval _ (aG 34) (aG 37) 26 rfl rfl rfl r) (G b1 b2 aE ((X _ x).grown I F.size fun j M=>(fS.lt j M).1) fun j u M f7 a8 b9 bM h=>by
    rcases (by omega:j=0\/j=1\/j=2\/j=3\/j=4\/j=5\/j=6\/j=7\/j=8\/j=9\/j=10\/j=11\/j=12\/j=13\/j=14\/j=15) with rfl|rfl|rfl|rfl|rfl|rfl|rfl|rfl|rfl|rfl|rfl|rfl|rfl|rfl|rfl|rfl
    ·exact absurd rfl (fun _:(0:Nat)=0=>a8 (a7 5 _ (a2 ⟨5,.data⟩ (by simp) rfl) rfl ⟨0,.data⟩ (by simp) rfl |> fun _=>a2 ⟨5,.data⟩ (by simp) rfl))
    ·exact h
    ·exact h
    ·exact h
    ·exact h
    ·exact absurd rfl (fun _:(0:Nat)=0=>b9 rfl)
    ·exact h
    ·exact h
    ·exact absurd rfl (fun _:(0:Nat)=0=>b9 rfl)
    ·exact absurd rfl (fun _:(0:Nat)=0=>bM rfl)
    ·exact h
    ·exact h
    ·exact h
    ·exact h
    ·exact absurd rfl (fun _:(0:Nat)=0=>hV (a7 14 _ f7 rfl ⟨9,.data⟩ (by simp) rfl))
    ·exact h)
  ·cases H;have a1:a.eval (aG 2)=Z (J ⟨q,0,ay⟩):=seen.kp 2 _ (nd 2 (by omega)) rfl;exact Rg.dI rfl rfl (Rg.dY a.eval _ 30 (aG 2) 3 rfl (by rw [a1]; simp [go_sem])) (G _ _ rfl (X _ _) fun _ _ _ _ _ _ _ h=>h)
  ·cases H;have hI:a.eval (aG 39)=Z (J ⟨q,3,ay⟩):=seen.at_ ⟨10,.data⟩ (by simp) rfl (aJ (by decide));have y:=(b4.o.on F).cell 3;simp only [aB,aD,aF] at y;exact Rg.dI rfl rfl (Rg.dW a.eval _ 26 (aG 39) rfl (by rw [hI]; simp [go_sem,y])) (G _ _ rfl (X _ _) fun _ _ _ _ _ _ _ h=>h)
  ·cases H;have bB:a.eval (aG 6)=U O (at_:Int):=seen.kp 6 _ (nd 6 (by omega)) rfl;exact Rg.dI rfl rfl (Rg.gF a.eval _ (aG 6) rfl x) (G _ _ bB (X _ _) fun _ _ _ _ _ _ _ h=>h)
  ·cases H;have hJ:a.eval (aG 40)=ah S N sc:=seen.at_ ⟨11,.data⟩ (by simp) rfl (aJ (by decide));have hK:a.eval (aG 41)=U O (at_:Int):=seen.at_ ⟨12,.data⟩ (by simp) rfl (aJ (by decide));exact Rg.dI rfl rfl (Rg.lW a.eval _ 26 (aG 40) (J (aG 41)) ay ay rfl (by show (bV 26 (a.eval (aG 40)) (J (a.eval (aG 41))) ay ay).run ak x=.ok b6 x; rw [hJ,hK]; exact h6.o x)) (G _ _ rfl (X _ _) fun _ _ _ _ _ _ _ h=>h)
  ·cases H;have fV:tq x W.heap.size (a.eval (aG 38)) ((lt++[z])):=seen.at_ ⟨9,.data⟩ (by simp) rfl (aV rfl);have hL:a.eval (aG 42)=b6:=seen.at_ ⟨13,.data⟩ (by simp) rfl (aJ (by decide));have bO:yL x (a.eval (aG 42)) b8:=by rw [hL]; exact h4.o.on F
   obtain⟨b1,b2,r,aE,I⟩:=iC Eu W.heap.size fV bO (by have:=h8.o; rw [List.length_append,List.length_singleton]; omega) h2.o F.size 26;exact Rg.dI rfl rfl (Rg.gV a.eval _ (aG 38) (aG 42) 26 rfl rfl rfl r) (G b1 b2 aE ((X _ x).grown I F.size fun j M=>(fV.lt j M).1) fun j u M f7 a8 b9 bM h=>by
    rcases (by omega:j=0\/j=1\/j=2\/j=3\/j=4\/j=5\/j=6\/j=7\/j=8\/j=9\/j=10\/j=11\/j=12\/j=13\/j=14\/j=15) with rfl|rfl|rfl|rfl|rfl|rfl|rfl|rfl|rfl|rfl|rfl|rfl|rfl|rfl|rfl|rfl
    ·exact absurd rfl (fun _:(0:Nat)=0=>a8 (a7 9 _ (a2 ⟨9,.data⟩ (by simp) rfl) rfl ⟨5,.data⟩ (by simp) rfl))
    ·exact h
    ·exact h
    ·exact h
    ·exact h
    ·exact absurd rfl (fun _:(0:Nat)=0=>a8 (a2 ⟨9,.data⟩ (by simp) rfl))
    ·exact h
    ·exact h
    ·exact absurd rfl (fun _:(0:Nat)=0=>a8 (a2 ⟨9,.data⟩ (by simp) rfl))
    ·exact absurd rfl (fun _:(0:Nat)=0=>b9 rfl)
    ·exact h
    ·exact h
    ·exact h
    ·exact h
    ·exact absurd rfl (fun _:(0:Nat)=0=>bM rfl)
    ·exact h)
  ·cases H;have a1:a.eval (aG 2)=Z (J ⟨q,0,ay⟩):=seen.kp 2 _ (nd 2 (by omega)) rfl;exact Rg.dI rfl rfl (Rg.dY a.eval _ 30 (aG 2) 3 rfl (by rw [a1]; simp [go_sem])) (G _ _ rfl (X _ _) fun _ _ _ _ _ _ _ h=>h)
 ·intro a w' df sz kp ⟨bA,b7⟩ F;have I:a.tmps[43]?=J (bA 14):=(b7 14 (by omega)).1;have hO:a.tmps[44]?=J (Z (J ⟨q,3,ay⟩)):=by
   have h:bA 15=Z (J ⟨q,3,ay⟩):=(b7 15 (by omega)).2 (by decide);rw [<- h];exact (b7 15 (by omega)).1
  have fW:tq w' W.heap.size (bA 14) (lt++[z]++b8):=(b7 14 (by omega)).2 (by decide);generalize bA 14=f1 at *;obtain⟨i0,i1,hM⟩:=(Row.dL fW).len;have a6:=b4.o.on F;have fL:=b4.o.lt;have c5:=a6.cell 3;have hN:=a6.fr 3;simp only [aB,aD,aF] at c5;have hQ:=eD (k:=3) a6 f1;show Rg.fU _ _ _ 1 16 a w';simp only [Rg.fU];refine Rg.gq 26 (aG 44) (aG 43) rfl rfl rfl rfl (Rg.dU hO) (Rg.dU I) (w':=w'.setCell ⟨q,3,ay⟩ f1) (by rw [hM]; simp [go_sem,c5,hN]) ?_;have hZ:∀ j,(j<29\/45<=j)->a.tmps[j]?=(bT::bW::Z (J ⟨q,0,ay⟩)::Z (J ⟨b3,0,ay⟩)::cQ::cW::U O (at_:Int)::u7::eB::u9::bX::u11::c6::u13::c7::c8::c9::cA::cC::cD::cF::cG::cH::cI::cJ::cL::cM::cN::cP::fX::fY::g0::g1::g2::g3::g4::g5::g6::g7::g8::g9::gA::gC::gE::gI::cR::cS::cT::cU::cV::cX::cY::d0::d1::d2::d3::d4::d5::d6::d7::d8::d9::dA::dC::dE::dS::dT::dZ::e0::e1::e2::e3::e4::e5::e6::e7::e8::e9::eA::[])[j]?:=fun j M=>(kp j (nd j M)).trans aB;obtain⟨hX,hU,rfl⟩:=Rg.gG 29 16 df sz (by simp) hZ
  match hX,hU with
  | [eC,eE,eI,eJ,eK,eL,eM,eN,eQ,eR,eS,v40,eV,eW,T,f0],_ =>
   have h9:J T=J f1:=I;obtain rfl:=aO h9;refine f3.o _ eC eE eI eJ eK eL eM eN eQ eR eS v40 eV eW T f0 ?_ ?_ ?_ ?_ ?_
   ·simpa using hQ
   ·exact eF fW q 3 _ fL
   ·exact fun B hB=>(F.mono (Nat.le_of_lt (Nat.lt_of_le_of_lt hB fL))).setCell hB _
   ·intro c cs t a7 hR;exact (aN _ _ _ _ a7).trans (hR.on F)
   ·intro k hS hW;exact (aN _ _ _ _ hW).trans (F.block k hS)
end Bk
end Go.Proofs.YtghlpefopidlaaaGreat
