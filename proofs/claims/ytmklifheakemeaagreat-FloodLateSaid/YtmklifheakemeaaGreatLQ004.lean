/-
  Rows of IDs, of adve. Conditions as told.
-/
import Derived.Test.YtmklifheakemeaaGreatLQ002
import Derived.Test.YtmklifheakemeaaGreatLQ003
set_option maxRecDepth 100000
set_option maxHeartbeats 64000000
open _root_.Bool renaming true->aQ
open _root_.Go renaming World->U,Value->Y,Operand->aU,TypeId->aW,Addr->aY,Act->bH
open Go.Addr renaming add->ah
open Go.Instr renaming indexAt->aM,loadAt->aN,storeAt->bg
open Go.IntKind renaming i64->O
open Go.Lib renaming hid->aA
open Go.Obj renaming cells->aO
open Go.Proofs.Tryz renaming prog->aj
open Go.Region renaming binds->Z
open Go.RowKit renaming Below->aB
open Go.RowKit.Below renaming refl->aI,heap_setCell->bf
open Go.Value renaming int->J,slice->ak,pointer->aH,agg->aR,bool->bq
open _root_.List renaming not_mem_nil->aC,getElem?_eq_some_iff->aJ,mem_cons->aL,map_cons->aS,length_cons->aV,all_eq_true->aX,mem_range->aZ
open _root_.Nat renaming lt_or_ge->au,le_refl->aF,le_trans->bF,zero_le->bG
open _root_.Option renaming some->X,none->aD,map_some->aG
open Option.some renaming injEq->ay,inj->bI
open _root_.Or renaming inr->aP,inl->aT
open Prod.mk renaming injEq->aK
namespace Go.Proofs.YtmklifheakemeaaGreat
namespace Bk
open Go.RowKit Rw YtmklifheakemeaaGreat.Nm Pr
abbrev Sl:=Option aY×Nat×Nat
abbrev dO (s:Sl):Y:=ak s.1 s.2.1 s.2.2
abbrev Id:=Int×Int
abbrev fB:=Id
abbrev jP (x:fB):List Y:=[J O x.1,J O x.2]
abbrev Xu (x:fB):Y:=aR #[J O x.1,J O x.2]
def EJ:Ek fB:=⟨31,24,2,16,aR #[J O 0,J O 0],Xu,jP⟩
theorem Xv:(Tryz.prog.info? 31).map (fun i=>(i.zero,i.size,i.bytes))=X (X (aR #[J O 0,J O 0]),2,16):=by kernel_rfl
theorem RF (w:U) (p:aY) (x:fB) (h:∀ j u,(jP x)[j]?=X u->w.cell? (p.add j)=X u):(aN 31 (aH (X p))).run aj w=.ok (Xu x) w:=by
 have h0:=h 0 _ rfl;have h1:=h 1 _ rfl;simp [ah] at h0 h1;simp [go_sem,h0,h1]
theorem DI:EJ.Ok where
 hu:=Tryz.underlying24
 info:=by
  have h:=Xv;cases hi:Tryz.prog.info? 31 with
  | none=>rw [hi] at h; cases h
  | some i =>
   rw [hi] at h;simp only [aG,ay,aK] at h;exact⟨i,hi,h.1,h.2.1,h.2.2⟩
 zs:=rfl
 len:=fun _=>rfl
 one:=fun x u hu=>by
  simp only [EJ,jP,aL,aC,or_false] at hu;rcases hu with rfl|rfl <;> rfl
 pos:=by decide
 few:=by decide
 load:=fun w p x h=>RF w p x h
abbrev zH (W:U) (v:Y) (l:List fB):Prop:=Row EJ W v l
abbrev Am (W:U) (B:Nat) (v:Y) (l:List fB):Prop:=Own EJ W B v l
theorem elJ {W:U} {v:Y} {l:List fB} {ao:Option aY} {n c k:Nat} {x:fB} (h:zH W v l) (hv:v=ak ao n c) (hn:l.length=n) (hk:l[k]?=X x) :
  ∃ p:aY,(∀ w,(aM 24 (ak ao n c) (J O k)).run aj w=.ok (aH (X p)) w)/\∀ w,aB W.heap.size W w->w.cell? p=X (J O x.1)/\w.cell? ⟨p.block,p.off+1,aD⟩=X (J O x.2):=by
 obtain⟨p,h1,_,h2⟩:=nE DI h hv hn hk;exact⟨p,h1,fun w hw=>⟨by simpa [ah] using h2 w hw 0 _ rfl,by simpa [ah] using h2 w hw 1 _ rfl⟩⟩
abbrev jk:=Int×Int×Sl×Int
abbrev cellsD (x:jk):List Y:=[J O x.1,J O x.2.1,dO x.2.2.1,J O x.2.2.2]
abbrev lQ (x:jk):Y:=aR #[J O x.1,J O x.2.1,dO x.2.2.1,J O x.2.2.2]
def ED:Ek jk:=⟨74,23,4,48,aR #[J O 0,J O 0,ak aD 0 0,J O 0],lQ,cellsD⟩
theorem Xw:(Tryz.prog.info? 74).map (fun i=>(i.zero,i.size,i.bytes))=X (X (aR #[J O 0,J O 0,ak aD 0 0,J O 0]),4,48):=by kernel_rfl
theorem RG (w:U) (p:aY) (x:jk) (h:∀ j u,(cellsD x)[j]?=X u->w.cell? (p.add j)=X u):(aN 74 (aH (X p))).run aj w=.ok (lQ x) w:=by
 have h0:=h 0 _ rfl;have h1:=h 1 _ rfl;have h2:=h 2 _ rfl;have h3:=h 3 _ rfl;simp [ah] at h0 h1 h2 h3;simp [go_sem,h0,h1,h2,h3]
theorem okD:ED.Ok where
 hu:=Tryz.underlying23
 info:=by
  have h:=Xw;cases hi:Tryz.prog.info? 74 with
  | none=>rw [hi] at h; cases h
  | some i =>
   rw [hi] at h;simp only [aG,ay,aK] at h;exact⟨i,hi,h.1,h.2.1,h.2.2⟩
 zs:=rfl
 len:=fun _=>rfl
 one:=fun x u hu=>by
  simp only [ED,cellsD,aL,aC,or_false] at hu;rcases hu with rfl|rfl|rfl|rfl <;> rfl
 pos:=by decide
 few:=by decide
 load:=fun w p x h=>RG w p x h
abbrev Ao (W:U) (v:Y) (l:List jk):Prop:=Row ED W v l
abbrev qo (W:U) (B:Nat) (v:Y) (l:List jk):Prop:=Own ED W B v l
theorem Qq {W:U} {v:Y} {l:List jk} {ao:Option aY} {n c k:Nat} {x:jk} (h:Ao W v l) (hv:v=ak ao n c) (hn:l.length=n) (hk:l[k]?=X x) :
  ∃ p:aY,(∀ w,(aM 23 (ak ao n c) (J O k)).run aj w=.ok (aH (X p)) w)/\∀ w,aB W.heap.size W w->w.cell? p=X (J O x.1)/\w.cell? ⟨p.block,p.off+1,aD⟩=X (J O x.2.1)/\w.cell? ⟨p.block,p.off+2,aD⟩=X (dO x.2.2.1)/\w.cell? ⟨p.block,p.off+3,aD⟩=X (J O x.2.2.2):=by
 obtain⟨p,h1,_,h2⟩:=nE okD h hv hn hk;exact⟨p,h1,fun w hw=>⟨by simpa [ah] using h2 w hw 0 _ rfl,by simpa [ah] using h2 w hw 1 _ rfl,by simpa [ah] using h2 w hw 2 _ rfl,by simpa [ah] using h2 w hw 3 _ rfl⟩⟩
abbrev gW:=Int×Int×Int×Int×Sl×Int×Bool
abbrev gX (x:gW):List Y:=[J O x.1,J O x.2.1,J O x.2.2.1,J O x.2.2.2.1,dO x.2.2.2.2.1,J O x.2.2.2.2.2.1,bq x.2.2.2.2.2.2]
abbrev nY (x:gW):Y:=aR #[J O x.1,J O x.2.1,J O x.2.2.1,J O x.2.2.2.1,dO x.2.2.2.2.1,J O x.2.2.2.2.2.1,bq x.2.2.2.2.2.2]
def EN:Ek gW:=⟨66,25,7,72,aR #[J O 0,J O 0,J O 0,J O 0,ak aD 0 0,J O 0,bq false],nY,gX⟩
theorem Xx:(Tryz.prog.info? 66).map (fun i=>(i.zero,i.size,i.bytes))=X (X (aR #[J O 0,J O 0,J O 0,J O 0,ak aD 0 0,J O 0,bq false]),7,72):=by kernel_rfl
theorem RI (w:U) (p:aY) (x:gW) (h:∀ j u,(gX x)[j]?=X u->w.cell? (p.add j)=X u):(aN 66 (aH (X p))).run aj w=.ok (nY x) w:=by
 have h0:=h 0 _ rfl;have h1:=h 1 _ rfl;have h2:=h 2 _ rfl;have h3:=h 3 _ rfl;have h4:=h 4 _ rfl;have h5:=h 5 _ rfl;have h6:=h 6 _ rfl;simp [ah] at h0 h1 h2 h3 h4 h5 h6;simp [go_sem,h0,h1,h2,h3,h4,h5,h6]
theorem nH:EN.Ok where
 hu:=Tryz.underlying25
 info:=by
  have h:=Xx;cases hi:Tryz.prog.info? 66 with
  | none=>rw [hi] at h; cases h
  | some i =>
   rw [hi] at h;simp only [aG,ay,aK] at h;exact⟨i,hi,h.1,h.2.1,h.2.2⟩
 zs:=rfl
 len:=fun _=>rfl
 one:=fun x u hu=>by
  simp only [EN,gX,aL,aC,or_false] at hu;rcases hu with rfl|rfl|rfl|rfl|rfl|rfl|rfl <;> rfl
 pos:=by decide
 few:=by decide
 load:=fun w p x h=>RI w p x h
abbrev kr (W:U) (v:Y) (l:List gW):Prop:=Row EN W v l
abbrev jZ (W:U) (B:Nat) (v:Y) (l:List gW):Prop:=Own EN W B v l
theorem KA {W:U} {v:Y} {l:List gW} {ao:Option aY} {n c k:Nat} {x:gW} (h:kr W v l) (hv:v=ak ao n c) (hn:l.length=n) (hk:l[k]?=X x) :
  ∃ p:aY,(∀ w,(aM 25 (ak ao n c) (J O k)).run aj w=.ok (aH (X p)) w)/\∀ w,aB W.heap.size W w->w.cell? p=X (J O x.1)/\w.cell? ⟨p.block,p.off+1,aD⟩=X (J O x.2.1)/\w.cell? ⟨p.block,p.off+2,aD⟩=X (J O x.2.2.1)/\w.cell? ⟨p.block,p.off+3,aD⟩=X (J O x.2.2.2.1)/\w.cell? ⟨p.block,p.off+4,aD⟩=X (dO x.2.2.2.2.1)/\w.cell? ⟨p.block,p.off+5,aD⟩=X (J O x.2.2.2.2.2.1)/\w.cell? ⟨p.block,p.off+6,aD⟩=X (bq x.2.2.2.2.2.2):=by
 obtain⟨p,h1,_,h2⟩:=nE nH h hv hn hk;exact⟨p,h1,fun w hw=>⟨by simpa [ah] using h2 w hw 0 _ rfl,by simpa [ah] using h2 w hw 1 _ rfl,by simpa [ah] using h2 w hw 2 _ rfl,by simpa [ah] using h2 w hw 3 _ rfl,by simpa [ah] using h2 w hw 4 _ rfl,by simpa [ah] using h2 w hw 5 _ rfl,by simpa [ah] using h2 w hw 6 _ rfl⟩⟩
abbrev nS:=Int×Int×Sl
abbrev qp (x:nS):List Y:=[J O x.1,J O x.2.1,dO x.2.2]
abbrev KF (x:nS):Y:=aR #[J O x.1,J O x.2.1,dO x.2.2]
def EW:Ek nS:=⟨34,26,3,40,aR #[J O 0,J O 0,ak aD 0 0],KF,qp⟩
theorem Xy:(Tryz.prog.info? 34).map (fun i=>(i.zero,i.size,i.bytes))=X (X (aR #[J O 0,J O 0,ak aD 0 0]),3,40):=by kernel_rfl
theorem Xz (w:U) (p:aY) (x:nS) (h:∀ j u,(qp x)[j]?=X u->w.cell? (p.add j)=X u):(aN 34 (aH (X p))).run aj w=.ok (KF x) w:=by
 have h0:=h 0 _ rfl;have h1:=h 1 _ rfl;have h2:=h 2 _ rfl;simp [ah] at h0 h1 h2;simp [go_sem,h0,h1,h2]
theorem okW:EW.Ok where
 hu:=Tryz.underlying26
 info:=by
  have h:=Xy;cases hi:Tryz.prog.info? 34 with
  | none=>rw [hi] at h; cases h
  | some i =>
   rw [hi] at h;simp only [aG,ay,aK] at h;exact⟨i,hi,h.1,h.2.1,h.2.2⟩
 zs:=rfl
 len:=fun _=>rfl
 one:=fun x u hu=>by
  simp only [EW,qp,aL,aC,or_false] at hu;rcases hu with rfl|rfl|rfl <;> rfl
 pos:=by decide
 few:=by decide
 load:=fun w p x h=>Xz w p x h
abbrev I9 (W:U) (v:Y) (l:List nS):Prop:=Row EW W v l
abbrev nI (W:U) (B:Nat) (v:Y) (l:List nS):Prop:=Own EW W B v l
theorem elW {W:U} {v:Y} {l:List nS} {ao:Option aY} {n c k:Nat} {x:nS} (h:I9 W v l) (hv:v=ak ao n c) (hn:l.length=n) (hk:l[k]?=X x) :
  ∃ p:aY,(∀ w,(aM 26 (ak ao n c) (J O k)).run aj w=.ok (aH (X p)) w)/\∀ w,aB W.heap.size W w->w.cell? p=X (J O x.1)/\w.cell? ⟨p.block,p.off+1,aD⟩=X (J O x.2.1)/\w.cell? ⟨p.block,p.off+2,aD⟩=X (dO x.2.2):=by
 obtain⟨p,h1,_,h2⟩:=nE okW h hv hn hk;exact⟨p,h1,fun w hw=>⟨by simpa [ah] using h2 w hw 0 _ rfl,by simpa [ah] using h2 w hw 1 _ rfl,by simpa [ah] using h2 w hw 2 _ rfl⟩⟩
structure Ad where
 id:Id
 p:List C5
 par:Int
structure En where
 tree:Id
 sub:Id
 p:List C5
 from_:Int
 up:Bool
structure Ow where
 id:Id
 p:List C5
structure Br where
 me:Int
 near:List Int
 dV:List Ad
 seen:List Id
 ent:List En
 own:List Ow
def xK (W:U) (x:jk) (a:Ad):Prop:=(x.1,x.2.1)=a.id/\x.2.2.2=a.par/\eY W (dO x.2.2.1) a.p
def jQ (W:U) (x:gW) (a:En):Prop:=(x.1,x.2.1)=a.tree/\(x.2.2.1,x.2.2.2.1)=a.sub/\x.2.2.2.2.2.1=a.from_/\x.2.2.2.2.2.2=a.up/\eY W (dO x.2.2.2.2.1) a.p
def D7 (W:U) (x:nS) (a:Ow):Prop:=(x.1,x.2.1)=a.id/\eY W (dO x.2.2) a.p
theorem xK.on {W W':U} {x:jk} {a:Ad} (h:xK W x a) (hb:aB W.heap.size W W'):xK W' x a:=⟨h.1,h.2.1,h.2.2.on hb⟩
theorem jQ.on {W W':U} {x:gW} {a:En} (h:jQ W x a) (hb:aB W.heap.size W W'):jQ W' x a:=⟨h.1,h.2.1,h.2.2.1,h.2.2.2.1,h.2.2.2.2.on hb⟩
theorem D7.on {W W':U} {x:nS} {a:Ow} (h:D7 W x a) (hb:aB W.heap.size W W'):D7 W' x a:=⟨h.1,h.2.on hb⟩
inductive eZ {α β:Type} (R:α->β->Prop):List α->List β->Prop
 | nil:eZ R [] []
 | cons {a b l m} (h:R a b) (t:eZ R l m):eZ R (a::l) (b::m)
theorem eZ.mono {α β:Type} {R S:α->β->Prop} (h:∀ a b,R a b->S a b):∀ {l m},eZ R l m->eZ S l m
 | _,_,.nil=>.nil
 | _,_,.cons x t=>.cons (h _ _ x) (t.mono h)
theorem eZ.len {α β:Type} {R:α->β->Prop}:∀ {l m},eZ R l m->l.length=m.length
 | _,_,.nil=>rfl
 | _,_,.cons _ t=>by rw [aV,aV,t.len]
theorem eZ.at {α β:Type} {R:α->β->Prop}:∀ {l m} (_:eZ R l m) (k:Nat) (b:β),m[k]?=X b->∃ a,l[k]?=X a/\R a b
 | _,_,.nil,k,b,h=>by simp at h
 | _,_,.cons x t,0,b,h=>by
  simp at h;subst h;exact⟨_,rfl,x⟩
 | _,_,.cons x t,k+1,b,h=>by
  obtain⟨a,h1,h2⟩:=t.at k b (by simpa using h);exact⟨a,by simpa using h1,h2⟩
theorem eZ.append {α β:Type} {R:α->β->Prop}:∀ {l m l' m'},eZ R l m->eZ R l' m'->eZ R (l++l') (m++m')
 | _,_,_,_,.nil,h=>h
 | _,_,_,_,.cons x t,h=>.cons x (t.append h)
theorem eZ.take {α β:Type} {R:α->β->Prop}:∀ {l m} (k:Nat),eZ R l m->eZ R (l.take k) (m.take k)
 | _,_,0,_=>by simp only [List.take_zero]; exact .nil
 | _,_,k+1,.nil=>by simp only [List.take_nil]; exact .nil
 | _,_,k+1,.cons x t=>.cons x (t.take k)
theorem eZ.drop {α β:Type} {R:α->β->Prop}:∀ {l m} (k:Nat),eZ R l m->eZ R (l.drop k) (m.drop k)
 | _,_,0,h=>h
 | _,_,_k+1,.nil=>.nil
 | _,_,k+1,.cons _ t=>t.drop k
structure lS (W:U) (b:Br) (nv av sv ev ov:Sl):Prop where
 near:uW W (dO nv) b.near
 dV:∃ l,Ao W (dO av) l/\eZ (xK W) l b.dV
 seen:zH W (dO sv) b.seen
 ent:∃ l,kr W (dO ev) l/\eZ (jQ W) l b.ent
 own:∃ l,I9 W (dO ov) l/\eZ (D7 W) l b.own
theorem lS.on {W W':U} {b:Br} {nv av sv ev ov:Sl} (h:lS W b nv av sv ev ov) (hb:aB W.heap.size W W'):lS W' b nv av sv ev ov where
 near:=h.near.on hb
 dV:=by obtain⟨l,h1,h2⟩:=h.dV; exact⟨l,h1.on hb,h2.mono fun _ _ h=>h.on hb⟩
 seen:=h.seen.on hb
 ent:=by obtain⟨l,h1,h2⟩:=h.ent; exact⟨l,h1.on hb,h2.mono fun _ _ h=>h.on hb⟩
 own:=by obtain⟨l,h1,h2⟩:=h.own; exact⟨l,h1.on hb,h2.mono fun _ _ h=>h.on hb⟩
abbrev lN (me:Int) (nv av sv ev ov:Sl):Y:=aR #[J O me,dO nv,dO av,dO sv,dO ev,dO ov]
abbrev jl (me:Int) (nv av sv ev ov:Sl):Array Y:=#[J O me,dO nv,dO av,dO sv,dO ev,dO ov]
def dY (a b:Id):Bool:=decide (a.1<b.1) || (a.1 == b.1 && decide (a.2<b.2))
def fE:List Id->Id->Int
 | [],_=>-1
 | a::l,x=>if a=x then 0 else if fE l x=-1 then -1 else fE l x+1
def fU (l:List Id) (x:Id):Nat:=(l.takeWhile fun a=>dY a x).length
abbrev nU (x:Id):Y:=aR #[J O x.1,J O x.2]
theorem Gd:Tryz.prog.stoodInHeld 31=false:=by kernel_rfl
theorem qJ (a b c d:Int) (r:Bool) (h:(a == c && b == d)=r) (w:U):(binOp .eql 31 (aR #[J O a,J O b]) (aR #[J O c,J O d])).run aj w=.ok (bq r) w:=by
 have st:=Gd;subst h;by_cases h1:a=c <;> by_cases h2:b=d <;> simp [go_sem,Tryz.underlying31,Tryz.underlying3,st,h1,h2]
theorem gM (w:U) (o:Obj):aB w.heap.size w (w.alloc o):=(aI _ _).alloc (aF _) _
theorem gT (w:U) (c d:Array Y) (s t:aW):aB w.heap.size w ((w.alloc (aO c s)).alloc (aO d t))/\dI ((w.alloc (aO c s)).alloc (aO d t)) w.heap.size c s/\dI ((w.alloc (aO c s)).alloc (aO d t)) (w.heap.size+1) d t:=by
 refine⟨((aI _ _).alloc (aF _) _).alloc (by simp) _,(dL w c s).more _,?_⟩;have h:=dL (w.alloc (aO c s)) d t;simpa using h
theorem uZ (x y:Id) (w:U):Calls aj 74 #[nU x,nU y] w fun e w'=>e=.returned (bq (dY x y))/\aB w.heap.size w w':=by
 obtain⟨a,b⟩:=x;obtain⟨c,d⟩:=y;obtain⟨h0,h1,h2⟩:=gT w #[J O a,J O b] #[J O c,J O d] 31 31;have B:=aA h0;obtain⟨a0,a1⟩:=h1.cs2;obtain⟨b0,b1⟩:=h2.cs2;have R:=aA (show dY (a,b) (c,d)=(decide (a<c) || (a == c && decide (b<d))) from rfl);generalize dY (a,b) (c,d)=r at *;obtain⟨r1,e1⟩:∃ r,decide (a<c)=r:=⟨_,rfl⟩;obtain⟨r2,e2⟩:∃ r,(a == c)=r:=⟨_,rfl⟩;obtain⟨r3,e3⟩:∃ r,decide (b<d)=r:=⟨_,rfl⟩;rw [e1,e2,e3] at R;clear h0 h1 h2;go_enter Tryz.func74,Tryz.ntmps74;cases r1 <;> cases r2
 all_goals
  go_wp2;go_ret;exact⟨by rw [R.out]; simp,B.out⟩
theorem lC:∀ (l:List Id) (x:Id),-1<=fE l x
 | [],_=>by simp [fE]
 | a::l,x=>by
  unfold fE;have:=lC l x
  split
  ·omega
  ·split <;> omega
theorem Ja (l:List jk) (x:Id) (h:∀ (j:Nat) (y:jk),l[j]?=X y->(y.1,y.2.1)≠x):fE (l.map fun y=>(y.1,y.2.1)) x=-1:=by
 induction l with
 | nil=>rfl
 | cons a l ih =>
  rw [aS,fE,if_neg (h 0 a rfl),ih fun j y hj=>h (j+1) y (by simpa using hj),if_pos rfl]
theorem Qr (l:List jk) (k:Nat) (x:Id) (y:jk) (h:l[k]?=X y) (hx:(y.1,y.2.1)=x) (hall:∀ (j:Nat) (z:jk),j<k->l[j]?=X z->(z.1,z.2.1)≠x):fE (l.map fun y=>(y.1,y.2.1)) x=k:=by
 induction l generalizing k with
 | nil=>simp at h
 | cons a l ih =>
  cases k with
  | zero =>
   obtain rfl:a=y:=by simpa using h
   rw [aS,fE,if_pos hx]
   rfl
  | succ k =>
   have h2:=ih k (by simpa using h) fun j z hj hz=>hall (j+1) z (by omega) (by simpa using hz);rw [aS,fE,if_neg (hall 0 a (by omega) rfl),h2,if_neg (by omega)];omega
theorem Jb (me:Int) (nv ev sv ov:Y) (av:Sl) (l:List jk) (x:Id) (w:U) (hs:Ao w (dO av) l) :
  Calls aj 104 #[aR #[J O me,nv,dO av,sv,ev,ov],nU x] w fun e w'=>e=.returned (J O (fE (l.map fun y=>(y.1,y.2.1)) x))/\aB w.heap.size w w':=by
 obtain⟨c,d⟩:=x;obtain⟨so,sn,sc⟩:=av;obtain⟨ao,ac,hv⟩:=hs.len;have hv:ak so sn sc=ak ao l.length ac:=hv;obtain⟨rfl,rfl,rfl⟩:so=ao/\sn=l.length/\sc=ac:=by simpa using hv
 obtain⟨h0,h1,h2⟩:=gT w #[J O me,nv,ak so l.length sc,sv,ev,ov] #[J O c,J O d] 28 31;have B:=aA h0;have HS:=aA (hs.on h0);have X2:=aA h1;have X3:=aA h2;have lm:=hs.most;unfold maxLen at lm;obtain⟨n,hn⟩:∃ n,n=l.length:=⟨_,rfl⟩;have q3:=h1.cell 2;simp only [List.getElem?_toArray,List.getElem?_cons_zero,List.getElem?_cons_succ] at q3;rw [<- hn] at HS X2 lm q3 B X3 ⊢;have HN:=aA hn.symm;clear h0 h1 h2 hs hv hn;go_enter Tryz.func104,Tryz.ntmps104;go_upto_region 1 with fail;generalize (w.alloc (aO #[J O me,nv,ak so n sc,sv,ev,ov] 28)).alloc (aO #[J O c,J O d] 31)=W at *;go_wp2
 go_loopw [10] (fun i wr=>∃ k:Nat,k<=n/\i=J O k/\aB W.heap.size W wr/\∀ (j:Nat) (y:jk),j<k->l[j]?=X y->(y.1,y.2.1)≠(c,d)) (fun i _=>n-(intOf i).toNat)
 case atStart=>exact⟨0,bG _,rfl,aI _ _,fun j y h=>by omega⟩
 case round =>
  obtain⟨k,hk,rfl,hbe,hall⟩:=hrel;have BE:=aA hbe;have AL:=aA hall;clear hbe hall;by_cases hlt:k<n
  ·obtain⟨y,hy⟩:∃ y,l[k]?=X y:=⟨_,List.getElem?_eq_getElem (by rw [HN.out]; exact hlt)⟩;obtain⟨p,ix,px⟩:=Qq HS.out rfl HN.out hy;obtain⟨p0,p1,p2,p3⟩:=px wr BE.out;obtain⟨y1,y2,⟨yo,yn,yc⟩,y4⟩:=y;simp only at p0 p1 p2 p3;have NB:=aA (gM wr (aO #[J O y1,J O y2,ak yo yn yc,J O y4] 74));obtain⟨x0,x1⟩:=((X3.out.on BE.out).on NB.out).cs2;have hw3:IntKind.i64.wrap ((k:Int)+1)=(k:Int)+1:=IntWalk.i64_in _ (by omega);obtain⟨r,hr⟩:∃ r,(y1 == c && y2 == d)=r:=⟨_,rfl⟩;have he:=qJ y1 y2 c d r hr;have HY:=aA hy;have HR:=aA hr;clear px hy hr;cases r
   ·go_wp2
    go_roundw
    case rel=>exact⟨k+1,by omega,by go_num,BE.out.trans (NB.out.mono BE.out.size),fun j y' hj h1=>by
     rcases au j k with h3|h3
     ·exact AL.out j y' h3 h1
     ·obtain rfl:j=k:=by omega
      have e1:=HY.out;rw [h1] at e1;rw [bI e1];intro e;obtain⟨rfl,rfl⟩:y1=c/\y2=d:=by simpa using e
      have:=HR.out;simp at this⟩
    case measure=>simp [intOf]; omega
   ·go_wp2;go_ret;have h8:=HR.out;obtain⟨rfl,rfl⟩:y1=c/\y2=d:=by simpa using h8
    exact⟨by rw [Qr l k (y1,y2) _ HY.out rfl AL.out]; rfl,B.out.trans ((BE.out.trans (NB.out.mono BE.out.size)).mono B.out.size)⟩
  ·obtain rfl:k=n:=by omega
   go_wp2;go_ret;have hd:fE (l.map fun y=>(y.1,y.2.1)) (c,d)=-1:=Ja l (c,d) fun j y hj=>AL.out j y (by rw [<- HN.out]; exact (aJ.1 hj).1) hj;exact⟨by rw [hd]; rfl,B.out.trans (BE.out.mono B.out.size)⟩
end Bk
namespace Rg
open Go.RowKit
theorem wpOp_mono {P:Program} {ops:Array Oper} {Q:Exit->bH->U->Prop} {i:Nat} {K K':bH->U->Prop} {a:bH} {w:U} (h:∀ a w,K a w->K' a w) (hw:wpOp P ops Q i K a w):wpOp P ops Q i K' a w:=by
 unfold wpOp at hw ⊢;cases ho:ops[i]? with
 | none =>
  rw [ho] at hw;exact h _ _ hw
 | some o =>
  rw [ho] at hw;simp only at hw ⊢
  split at hw
  ·rename_i h1
   rw [if_pos h1];rcases hw with hw|hw
   ·exact aT (Oper.wp_mono h hw)
   ·exact aP hw
  ·rename_i h1
   rw [if_neg h1];exact h _ _ hw
def fP (P:Program) (ops:Array Oper) (Q:Exit->bH->U->Prop):Nat->Nat->bH->U->Prop
 | 0,_,a,w=>Q .normal a w
 | n+1,k,a,w=>wpOp P ops Q k (fun a w=>fP P ops Q n (k+1) a w) a w
structure RJ (i M:Nat) (dst last:Nat->Nat) (V:Nat->Y->U->Prop) (base:bH) (o:Oper) (a:bH) (w:U):Prop where
 kp:∀ j u,(∀ k,k<M->dst k≠j)->base.tmps[j]?=X u->a.eval (.tmp j)=u
 at_:∀ e∈o.after,Z .any e=aQ->(last e.on=i\/M<=last e.on)->V e.on (a.eval (.tmp (dst e.on))) w
 got:∀ e∈o.after,Z .any e=aQ->a.tmps[dst e.on]?=X (a.eval (.tmp (dst e.on)))
structure PhL (l:List Oper) (M:Nat) (dst last:Nat->Nat) (V:Nat->Y->U->Prop) (base:bH) (w:U) (L:Array Bool) (a:bH) (x:U):Prop where
 no:∀ i,M<=i->¬ done L i
 cl:∀ i o,done L i->l[i]?=X o->∀ e∈o.after,Z .any e=aQ->done L e.on
 df:a.defers=base.defers
 sz:a.tmps.size=base.tmps.size
 kp:∀ j,(∀ i,i<M->dst i≠j)->a.tmps[j]?=base.tmps[j]?
 qb:aB w.heap.size w x
 val:∃ vs:Nat->Y,∀ i,i<M->done L i->a.tmps[dst i]?=X (vs i)/\(¬ done L (last i)->V i (vs i) x)
theorem gN {P:Program} {Q:Exit->bH->U->Prop} {id:Nat} {base:bH} {w:U} {l:List Oper} (N M:Nat) (dst last:Nat->Nat) (V:Nat->Y->U->Prop)
  (hm:P.follows .mixedOrders=aQ) (hf:Ah l.toArray=aQ) (hN:l.length=N) (hMN:M<=N) (hinj:∀ i j,i<M->j<M->dst i=dst j->i=j) (hs:∀ i,i<M->dst i<base.tmps.size)
  (hop:∀ i o,i<M->l[i]?=X o->∀ a w' (D:Nat->Prop),¬ D i->(∀ j oj,D j->l[j]?=X oj->∀ e∈oj.after,Z .any e=aQ->D e.on)->(∀ e∈o.after,Z .any e=aQ->D e.on)->aB w.heap.size w w'->RJ i M dst last V base o a w'->∀ K:bH->U->Prop,(∀ v w'',V i v w''->aB w.heap.size w' w''->(∀ j u,j<M->D j->¬ D (last j)->last j≠i->j≠i->V j u w'->V j u w'')->K (a.put (X (dst i)) v) w'')->wpOp P l.toArray Q i K a w')
  (hall:M<N->∀ D:Nat->Prop,(∀ j o,D j->l[j]?=X o->∀ e∈o.after,Z .any e=aQ->D e.on)->(∀ o,l[M]?=X o->∀ e∈o.after,Z .any e=aQ->D e.on)->∀ i,i<M->D i)
  (hnext:∀ k o,M<k->k<N->l[k]?=X o->∃ e∈o.after,Z .any e=aQ/\e.on=k-1)
  (hseq:∀ a w',a.defers=base.defers->a.tmps.size=base.tmps.size->(∀ j,(∀ i,i<M->dst i≠j)->a.tmps[j]?=base.tmps[j]?)->(∃ vs:Nat->Y,∀ i,i<M->a.tmps[dst i]?=X (vs i)/\(M<=last i->V i (vs i) w'))->aB w.heap.size w w'->fP P l.toArray Q (N-M) M a w'):(Code.region id l.toArray aQ).wp P Q base w:=by
 refine kC (fun L a x=>PhL l M dst last V base w L a x\/∃ s,1<=s/\M+s<=N/\(∀ i,i<N->(done L i↔i<M+s))/\fP P l.toArray Q (N-M-s) (M+s) a x) hm hf ?_ ?_ ?_
 ·exact aT ⟨fun i _=>fF _ _,fun i o h=>absurd h (fF _ _),rfl,rfl,fun _ _=>rfl,(aI _ _).drew,fun _=>.bool aQ,fun i _ h=>absurd h (fF _ _)⟩
 ·intro L a x i o hsz hI ho hnd jO;have hi:i<l.length:=(aJ.1 ho).1;have rV:i<L.size:=by omega
  rcases hI with I|⟨s,h1,h2,h3,h4⟩
  ·rcases au i M with hiM|hiM
   ·obtain⟨vs,q1⟩:=I.val;have hon:∀ e∈o.after,Z .any e=aQ->e.on<M:=fun e he hb=>by
     have h7:=aX.1 hf i (aZ.2 (by simpa using hi));have ho':(l.toArray)[i]?=X o:=by simpa using ho
     rw [ho'] at h7;have h8:=Array.all_eq_true'.1 h7 e he;rw [hb] at h8;have:e.on<i:=by simpa using h8
     omega
    have seen:RJ i M dst last V base o a x:=⟨fun j u hj hu=>dH (by rw [I.kp j hj]; exact hu),fun e he hbd hl=>by
     obtain⟨p1,p2⟩:=q1 e.on (hon e he hbd) (jO e he hbd);rw [dH p1];refine p2 ?_;rcases hl with hl|hl
     ·rw [hl]; exact hnd
     ·exact I.no _ hl,fun e he hbd=>by
     obtain⟨p1,p2⟩:=q1 e.on (hon e he hbd) (jO e he hbd);rw [dH p1];exact p1⟩
    refine hop i o hiM ho a x (done L) hnd I.cl jO I.qb seen _ fun v w'' hvw hbw hpr=>aT ?_;refine⟨fun k hk hd=>?_,fun k q hk hq e he hb=>?_,I.df,by rw [size_put]; exact I.sz,fun j hj=>?_,I.qb.trans hbw,fun k=>if k=i then v else vs k,fun k Qs hk=>?_⟩
    ·rcases (fQ rV k).1 hd with h9|h9
     ·omega
     ·exact I.no k hk h9
    ·rw [fQ rV] at hk ⊢;rcases hk with rfl|hk
     ·rw [hq] at ho;cases ho;exact aP (jO e he hb)
     ·exact aP (I.cl k q hk hq e he hb)
    ·rw [get_put _ _ _ _ (fun e=>hj i hiM e.symm)];exact I.kp j hj
    ·by_cases e:k=i
     ·subst e;have:dst k<a.tmps.size:=by rw [I.sz]; exact hs k Qs
      simp only [if_true];exact⟨by simp [Act.put,this],fun _=>hvw⟩
     ·simp only [if_neg e];rw [get_put _ _ _ _ (fun e2=>e (hinj k i Qs hiM e2))];rcases (fQ rV k).1 hk with h9|h9
      ·exact absurd h9 e
      ·obtain⟨p1,p2⟩:=q1 k Qs h9;refine⟨p1,fun hn=>?_⟩;have n1:last k≠i:=fun e3=>hn ((fQ rV _).2 (aT e3));have n2:¬ done L (last k):=fun e3=>hn ((fQ rV _).2 (aP e3));exact hpr k _ Qs h9 n2 n1 e (p2 n2)
   ·have aaM:i=M:=by
     rcases au M i with h9|h9
     ·obtain⟨e,he,hb,hon⟩:=hnext i o h9 (by omega) ho;have hd:=jO e he hb;rw [hon] at hd;exact absurd hd (I.no _ (by omega))
     ·omega
    subst aaM;have hD:=hall (by omega) (done L) I.cl (fun o' ho' e he hb=>by
     rw [ho] at ho';cases ho';exact jO e he hb)
    obtain⟨vs,q1⟩:=I.val;have hq:=hseq a x I.df I.sz I.kp ⟨vs,fun k hk=>⟨(q1 k hk (hD k hk)).1,fun hl=>(q1 k hk (hD k hk)).2 (I.no _ hl)⟩⟩ I.qb;rw [show N-i=(N-i-1)+1 by omega] at hq;refine wpOp_mono (fun a' x' h=>aP ⟨1,aF _,by omega,fun k hk=>?_,h⟩) hq;rw [fQ rV];constructor
    ·rintro (rfl|h9)
     ·omega
     ·rcases au k i with h8|h8
      ·omega
      ·exact absurd h9 (I.no k h8)
    ·intro h9;by_cases e:k=i
     ·exact aT e
     ·exact aP (hD k (by omega))
  ·have hge:M+s<=i:=by
    rcases au i (M+s) with h9|h9
    ·exact absurd ((h3 i (by omega)).2 h9) hnd
    ·exact h9
   have hie:i=M+s:=by
    rcases au (M+s) i with h9|h9
    ·obtain⟨e,he,hb,hon⟩:=hnext i o (by omega) (by omega) ho;have hd:=jO e he hb;rw [hon] at hd;have:=(h3 (i-1) (by omega)).1 hd;omega
    ·omega
   subst hie;rw [show N-M-s=(N-M-(s+1))+1 by omega] at h4;refine wpOp_mono (fun a' x' h=>aP ⟨s+1,by omega,by omega,fun k hk=>?_,h⟩) h4;rw [fQ rV];constructor
   ·rintro (rfl|h9)
    ·omega
    ·have:=(h3 k hk).1 h9;omega
   ·intro h9;by_cases e:k=M+s
    ·exact aT e
    ·exact aP ((h3 k hk).2 (by omega))
 ·intro L a x hI hd;rcases hI with I|⟨s,h1,h2,h3,h4⟩
  ·rcases au M N with h9|h9
   ·exact absurd (hd M (by omega)) (I.no M (aF _))
   ·obtain⟨vs,q1⟩:=I.val;have hq:=hseq a x I.df I.sz I.kp ⟨vs,fun k hk=>⟨(q1 k hk (hd k (by omega))).1,fun hl=>(q1 k hk (hd k (by omega))).2 (I.no _ hl)⟩⟩ I.qb;rw [show N-M=0 by omega] at hq;exact hq
  ·have:=(h3 (N-1) (by omega)).1 (hd (N-1) (by omega));rw [show N-M-s=0 by omega] at h4;exact h4
theorem mI {P:Program} (ρ:aU->Y) (o:Oper) (t:aW) (parts:Array (Nat×aU)) (ho:o.op=.build t parts) {ps:Array (Nat×Y)} (hp:parts.map (fun x=>(x.1,ρ x.2))=ps) {v:Y} {w:U} (hr:(Instr.build t ps).run P w=.ok v w) :
  (execOp ρ o).run P w=.ok (.value v) w:=by
 subst hp;simp [execOp,ho,hr,Result.andThen]
theorem KG {P:Program} (ρ:aU->Y) (o:Oper) (t:aW) (x y:aU) (ho:o.op=.store t x y) {w w':U} (hr:(bg t (ρ x) (ρ y)).run P w=.ok () w') :
  (execOp ρ o).run P w=.ok .skip w':=by
 simp [execOp,ho,hr,Result.andThen]
theorem gB {P:Program} {ops:Array Oper} {Q:Exit->bH->U->Prop} {K:bH->U->Prop} {a:bH} {w w':U} {i:Nat} {o:Oper} (t:aW) (x y:aU) {p v:Y}
  (ho:ops[i]?=X o) (hg:o.guard=aD) (hop:o.op=.store t x y) (hd:o.dst=aD) (hx:a.eval x=p) (hy:a.eval y=v) (hr:(bg t p v).run P w=.ok () w') (h:K a w'):wpOp P ops Q i K a w:=by
 refine Qo ho hg (KG a.eval o t x y hop (by rw [hx,hy]; exact hr)) ?_;rw [hd];exact h
def zI (l:List Oper) (i:Nat):List Nat:=match l[i]? with
 | some o=>(o.after.toList.filter fun e=>Z .any e).map fun e=>e.on
 | none=>[]
def D8 (l:List Oper):Nat->List Nat->List Nat
 | 0,s=>s
 | n+1,s=>D8 l n (s++s.flatMap (zI l))
theorem Gf {l:List Oper} {D:Nat->Prop} {i:Nat} (h:∀ o,l[i]?=X o->∀ e∈o.after,Z .any e=aQ->D e.on):∀ j∈zI l i,D j:=by
 intro j hj;unfold zI at hj;cases ho:l[i]? with
 | none=>rw [ho] at hj; cases hj
 | some o =>
  rw [ho] at hj;obtain⟨e,he,rfl⟩:=List.mem_map.1 hj;obtain⟨h1,h2⟩:=List.mem_filter.1 he;exact h o ho e (Array.mem_toList_iff.1 h1) h2
theorem Ap {l:List Oper} {D:Nat->Prop} (hc:∀ j o,D j->l[j]?=X o->∀ e∈o.after,Z .any e=aQ->D e.on):∀ n s,(∀ j∈s,D j)->∀ j∈D8 l n s,D j
 | 0,_,hs=>hs
 | n+1,s,hs=>Ap hc n _ fun j hj=>by
  rcases List.mem_append.1 hj with h|h
  ·exact hs j h
  ·obtain⟨i,hi,hd⟩:=List.mem_flatMap.1 h;exact Gf (fun o ho=>hc i o (hs i hi) ho) j hd
theorem jN {l:List Oper} {M:Nat} (n:Nat) (h:(List.range M).all (fun i=>(D8 l n (zI l M)).contains i)=aQ) (D:Nat->Prop) (hc:∀ j o,D j->l[j]?=X o->∀ e∈o.after,Z .any e=aQ->D e.on) (hm:∀ o,l[M]?=X o->∀ e∈o.after,Z .any e=aQ->D e.on):∀ i,i<M->D i:=by
 intro i hi;have h2:=aX.1 h i (aZ.2 hi);exact Ap hc n _ (Gf hm) i (List.contains_iff_mem.1 h2)
theorem Aq {P:Program} (ρ:aU->Y) (o:Oper) (t:aW) (ho:o.op=.alloc t) {v:Y} {w w':U} (hr:(Instr.alloc t aQ (.tuple #[])).run P w=.ok v w'):(execOp ρ o).run P w=.ok (.value v) w':=by
 simp [execOp,ho,hr,Result.andThen]
end Rg
namespace Rw
open Go.RowKit
theorem jW {α:Type} {E:Ek α} (K:E.Ok) {w:U} (B:Nat) {g:Nat} {x:Y} {m:List α} (jC:dI w g #[] E.t) (hBg:B<=g) (hx:Row E w x m) (hm:m.length<=1000) (ty:aW) :
  ∃ v' w',(Builtin.append_ #[E.ts,E.ts] ty #[ak (X ⟨g,0,aD⟩) 0 0,x]).run aj w=.ok v' w'/\Own E w' B v' m/\aB w.heap.size w w':=by
 have ho:Own E w B (ak (X ⟨g,0,aD⟩) 0 0) ([]:List α):=mG K rfl hBg jC (aF _) (bG _) (by simp) (by simp [flat]);have hl:=jC.lt;obtain⟨v',w',r,o',gr⟩:=ji K B ho hx (by simp) hm (by omega) ty;refine⟨v',w',r,by simpa using o',?_⟩;obtain⟨i,i1,i2,i3,i4⟩:=K.info;rcases hx with⟨rfl,rfl⟩|⟨ad,c,rfl,h2,h3,h4⟩
 ·have r2:=run_append_owned_none (P:=aj) (w:=w) B E.ts ty E.t i E.n K.hu i1 _ _ _ ho;rw [r2] at r;injection r with _ e
  rw [<- e];exact aI _ _
 ·rcases Nat.eq_zero_or_pos m.length with h0|h0
  ·have r2:=run_append_room (P:=aj) (w:=w) E.ts ty E.t i K.hu i1 g 0 0 #[] jC ad m.length c (flat E m) (by rw [dQ K,i3]) h4 (mD K m) (by omega) (by rw [dQ K,h0]; simp);rw [r2] at r;injection r with _ e
   rw [<- e];have hf:flat E m=[]:=List.eq_nil_of_length_eq_zero (by rw [dQ K,h0]; simp);have hs:=dI.set jC ((#[]:Array Y).toList.take (0 * i.size)++flat E m++(#[]:Array Y).toList.drop (0 * i.size+(flat E m).length)).toArray;refine⟨rfl,rfl,rfl,by simp [World.setRow],fun k hk=>?_⟩;by_cases hkg:k=g
   ·subst hkg;refine hs.trans ?_;rw [hf];simpa using jC.symm
   ·exact setRow_other w g k _ hkg
  ·have r2:=run_append_grow (P:=aj) (w:=w) E.ts ty E.t i E.z K.hu i1 i2 ⟨g,0,aD⟩ 0 0 [] (by simp) (fun j v h=>by simp at h) ad m.length c (flat E m) (by rw [dQ K,i3]) h4 (by omega) (by omega) (by
    rw [Nat.zero_add,nextslicecap_zero h0,i4];exact bF (Nat.mul_le_mul hm K.few) (by decide))
   rw [r2] at r;injection r with _ e
   rw [<- e];exact (aI _ _).drew.alloc (aF _) _
end Rw
namespace Bk
open Go.RowKit Rw
theorem dK {α:Type} {E:Ek α} {W:U} {B C:Nat} {v:Y} {l:List α} (h:Own E W B v l) (hc:C<=B):Own E W C v l:=by
 refine⟨h.1,?_⟩;rcases h.2 with h2|⟨g,cap,cur,h1,h2,h3⟩
 ·exact aT h2
 ·exact aP ⟨g,cap,cur,h1,bF hc h2,h3⟩
theorem dJ {α:Type} {E:Ek α} {W W':U} {B:Nat} {v:Y} {l:List α} (h:Own E W B v l) (hb:aB W.heap.size W W'):Own E W' B v l :=
 h.kept (w':=W') (row:=aD) ⟨hb.os,hb.tape,hb.output,hb.size,fun k hk _=>hb.block k hk⟩ (by cases v.ownBlock <;> simp)
theorem eU {α:Type} {E:Ek α} {W:U} {B:Nat} {v:Y} {l:List α} (h:Own E W B v l) (b k:Nat) (x:Y) (hb:b<B):Own E (W.setCell ⟨b,k,aD⟩ x) B v l :=
 h.kept (w':=W.setCell ⟨b,k,aD⟩ x) (row:=X b) ⟨rfl,rfl,rfl,by simp [World.setCell],fun j _ hne=>bf _ _ _ _ (fun e=>hne (by rw [e]))⟩ (by
  cases hv:v.ownBlock with
  | none=>exact aT rfl
  | some j =>
   refine aP fun e=>?_;injection e with e
   have h1:=(h.lt j hv).1;omega)
theorem eD {W:U} {rb k:Nat} {cs:Array Y} {t:aW} (h:dI W rb cs t) (x:Y):dI (W.setCell ⟨rb,k,aD⟩ x) rb (cs.setIfInBounds k x) t:=heap_setCell_same W rb k cs t x h
end Bk
end Go.Proofs.YtmklifheakemeaaGreat
