/-
  Rows of IDs, of adve. Conditions as told.
-/
import Derived.Test.YtmklifheakemeaaGreatBQ003
import Derived.Test.YtmklifheakemeaaGreatBQ004
import Derived.Test.YtmklifheakemeaaGreatBQ005
set_option maxRecDepth 100000
set_option maxHeartbeats 64000000
open _root_.Bool renaming true->aU,false->bQ
open _root_.Go renaming World->U,Value->X,Operand->aW,TypeId->aY,Addr->bG,Act->bN
open Go.Addr renaming add->ah
open Go.Instr renaming indexAt->aO,loadAt->aR,storeAt->bL
open Go.IntKind renaming i64->O
open Go.Lib renaming hid->au
open Go.Obj renaming cells->aJ
open Go.Proofs.Tryz renaming prog->aj
open Go.Region renaming binds->Z
open Go.RowKit renaming Below->aB
open Go.RowKit.Below renaming refl->aF,heap_setCell->bK
open Go.Value renaming int->J,slice->ak,pointer->aK,agg->aV,bool->bI
open _root_.List renaming getElem?_eq_getElem->aA,not_mem_nil->aD,getElem?_eq_some_iff->aL,mem_cons->aN,getElem?_cons_zero->aP,getElem?_cons_succ->aQ,getElem?_toArray->aT,map_cons->aX,length_cons->bf,all_eq_true->bg,mem_range->bJ
open _root_.Nat renaming lt_or_ge->ay,le_refl->aH,zero_le->bF,le_trans->bM
open _root_.Option renaming some->Y,none->aG,map_some->aI
open Option.some renaming injEq->aC,inj->bH
open _root_.Or renaming inr->aS,inl->aZ
open Prod.mk renaming injEq->aM
namespace Go.Proofs.YtmklifheakemeaaGreat
namespace Bk
open Go.RowKit Rw YtmklifheakemeaaGreat.Nm Pr
abbrev Sl:=Option bG×Nat×Nat
abbrev dX (s:Sl):X:=ak s.1 s.2.1 s.2.2
abbrev Id:=Int×Int
abbrev fD:=Id
abbrev jO (x:fD):List X:=[J O x.1,J O x.2]
abbrev Ro (x:fD):X:=aV #[J O x.1,J O x.2]
def EJ:Ek fD:=⟨31,24,2,16,aV #[J O 0,J O 0],Ro,jO⟩
theorem ad9:(Tryz.prog.info? 31).map (fun i=>(i.zero,i.size,i.bytes))=Y (Y (aV #[J O 0,J O 0]),2,16):=by kernel_rfl
theorem CX (w:U) (p:bG) (x:fD) (h:∀ j u,(jO x)[j]?=Y u->w.cell? (p.add j)=Y u):(aR 31 (aK (Y p))).run aj w=.ok (Ro x) w:=by
 have h0:=h 0 _ rfl;have h1:=h 1 _ rfl;simp [ah] at h0 h1;simp [go_sem,h0,h1]
theorem Ca:EJ.Ok where
 hu:=Tryz.underlying24
 info:=by
  have h:=ad9;cases hi:Tryz.prog.info? 31 with
  | none=>rw [hi] at h; cases h
  | some i =>
   rw [hi] at h;simp only [aI,aC,aM] at h;exact⟨i,hi,h.1,h.2.1,h.2.2⟩
 zs:=rfl
 len:=fun _=>rfl
 one:=fun x u hu=>by
  simp only [EJ,jO,aN,aD,or_false] at hu;rcases hu with rfl|rfl <;> rfl
 pos:=by decide
 few:=by decide
 load:=fun w p x h=>CX w p x h
abbrev uY (W:U) (v:X) (l:List fD):Prop:=Row EJ W v l
abbrev rW (W:U) (B:Nat) (v:X) (l:List fD):Prop:=Own EJ W B v l
theorem elJ {W:U} {v:X} {l:List fD} {ao:Option bG} {n c k:Nat} {x:fD} (h:uY W v l) (hv:v=ak ao n c) (hn:l.length=n) (hk:l[k]?=Y x) :
  ∃ p:bG,(∀ w,(aO 24 (ak ao n c) (J O k)).run aj w=.ok (aK (Y p)) w)/\∀ w,aB W.heap.size W w->w.cell? p=Y (J O x.1)/\w.cell? ⟨p.block,p.off+1,aG⟩=Y (J O x.2):=by
 obtain⟨p,h1,_,h2⟩:=mH Ca h hv hn hk;exact⟨p,h1,fun w hw=>⟨by simpa [ah] using h2 w hw 0 _ rfl,by simpa [ah] using h2 w hw 1 _ rfl⟩⟩
abbrev jI:=Int×Int×Sl×Int
abbrev cellsD (x:jI):List X:=[J O x.1,J O x.2.1,dX x.2.2.1,J O x.2.2.2]
abbrev mY (x:jI):X:=aV #[J O x.1,J O x.2.1,dX x.2.2.1,J O x.2.2.2]
def ED:Ek jI:=⟨74,23,4,48,aV #[J O 0,J O 0,ak aG 0 0,J O 0],mY,cellsD⟩
theorem aea:(Tryz.prog.info? 74).map (fun i=>(i.zero,i.size,i.bytes))=Y (Y (aV #[J O 0,J O 0,ak aG 0 0,J O 0]),4,48):=by kernel_rfl
theorem Rp (w:U) (p:bG) (x:jI) (h:∀ j u,(cellsD x)[j]?=Y u->w.cell? (p.add j)=Y u):(aR 74 (aK (Y p))).run aj w=.ok (mY x) w:=by
 have h0:=h 0 _ rfl;have h1:=h 1 _ rfl;have h2:=h 2 _ rfl;have h3:=h 3 _ rfl;simp [ah] at h0 h1 h2 h3;simp [go_sem,h0,h1,h2,h3]
theorem okD:ED.Ok where
 hu:=Tryz.underlying23
 info:=by
  have h:=aea;cases hi:Tryz.prog.info? 74 with
  | none=>rw [hi] at h; cases h
  | some i =>
   rw [hi] at h;simp only [aI,aC,aM] at h;exact⟨i,hi,h.1,h.2.1,h.2.2⟩
 zs:=rfl
 len:=fun _=>rfl
 one:=fun x u hu=>by
  simp only [ED,cellsD,aN,aD,or_false] at hu;rcases hu with rfl|rfl|rfl|rfl <;> rfl
 pos:=by decide
 few:=by decide
 load:=fun w p x h=>Rp w p x h
abbrev vT (W:U) (v:X) (l:List jI):Prop:=Row ED W v l
abbrev lN (W:U) (B:Nat) (v:X) (l:List jI):Prop:=Own ED W B v l
theorem Mf {W:U} {v:X} {l:List jI} {ao:Option bG} {n c k:Nat} {x:jI} (h:vT W v l) (hv:v=ak ao n c) (hn:l.length=n) (hk:l[k]?=Y x) :
  ∃ p:bG,(∀ w,(aO 23 (ak ao n c) (J O k)).run aj w=.ok (aK (Y p)) w)/\∀ w,aB W.heap.size W w->w.cell? p=Y (J O x.1)/\w.cell? ⟨p.block,p.off+1,aG⟩=Y (J O x.2.1)/\w.cell? ⟨p.block,p.off+2,aG⟩=Y (dX x.2.2.1)/\w.cell? ⟨p.block,p.off+3,aG⟩=Y (J O x.2.2.2):=by
 obtain⟨p,h1,_,h2⟩:=mH okD h hv hn hk;exact⟨p,h1,fun w hw=>⟨by simpa [ah] using h2 w hw 0 _ rfl,by simpa [ah] using h2 w hw 1 _ rfl,by simpa [ah] using h2 w hw 2 _ rfl,by simpa [ah] using h2 w hw 3 _ rfl⟩⟩
abbrev iL:=Int×Int×Int×Int×Sl×Int×Bool
abbrev jA (x:iL):List X:=[J O x.1,J O x.2.1,J O x.2.2.1,J O x.2.2.2.1,dX x.2.2.2.2.1,J O x.2.2.2.2.2.1,bI x.2.2.2.2.2.2]
abbrev rV (x:iL):X:=aV #[J O x.1,J O x.2.1,J O x.2.2.1,J O x.2.2.2.1,dX x.2.2.2.2.1,J O x.2.2.2.2.2.1,bI x.2.2.2.2.2.2]
def EN:Ek iL:=⟨66,25,7,72,aV #[J O 0,J O 0,J O 0,J O 0,ak aG 0 0,J O 0,bI bQ],rV,jA⟩
theorem aeb:(Tryz.prog.info? 66).map (fun i=>(i.zero,i.size,i.bytes))=Y (Y (aV #[J O 0,J O 0,J O 0,J O 0,ak aG 0 0,J O 0,bI bQ]),7,72):=by kernel_rfl
theorem Zg (w:U) (p:bG) (x:iL) (h:∀ j u,(jA x)[j]?=Y u->w.cell? (p.add j)=Y u):(aR 66 (aK (Y p))).run aj w=.ok (rV x) w:=by
 have h0:=h 0 _ rfl;have h1:=h 1 _ rfl;have h2:=h 2 _ rfl;have h3:=h 3 _ rfl;have h4:=h 4 _ rfl;have h5:=h 5 _ rfl;have h6:=h 6 _ rfl;simp [ah] at h0 h1 h2 h3 h4 h5 h6;simp [go_sem,h0,h1,h2,h3,h4,h5,h6]
theorem nN:EN.Ok where
 hu:=Tryz.underlying25
 info:=by
  have h:=aeb;cases hi:Tryz.prog.info? 66 with
  | none=>rw [hi] at h; cases h
  | some i =>
   rw [hi] at h;simp only [aI,aC,aM] at h;exact⟨i,hi,h.1,h.2.1,h.2.2⟩
 zs:=rfl
 len:=fun _=>rfl
 one:=fun x u hu=>by
  simp only [EN,jA,aN,aD,or_false] at hu;rcases hu with rfl|rfl|rfl|rfl|rfl|rfl|rfl <;> rfl
 pos:=by decide
 few:=by decide
 load:=fun w p x h=>Zg w p x h
abbrev lF (W:U) (v:X) (l:List iL):Prop:=Row EN W v l
abbrev kQ (W:U) (B:Nat) (v:X) (l:List iL):Prop:=Own EN W B v l
theorem Pp {W:U} {v:X} {l:List iL} {ao:Option bG} {n c k:Nat} {x:iL} (h:lF W v l) (hv:v=ak ao n c) (hn:l.length=n) (hk:l[k]?=Y x) :
  ∃ p:bG,(∀ w,(aO 25 (ak ao n c) (J O k)).run aj w=.ok (aK (Y p)) w)/\∀ w,aB W.heap.size W w->w.cell? p=Y (J O x.1)/\w.cell? ⟨p.block,p.off+1,aG⟩=Y (J O x.2.1)/\w.cell? ⟨p.block,p.off+2,aG⟩=Y (J O x.2.2.1)/\w.cell? ⟨p.block,p.off+3,aG⟩=Y (J O x.2.2.2.1)/\w.cell? ⟨p.block,p.off+4,aG⟩=Y (dX x.2.2.2.2.1)/\w.cell? ⟨p.block,p.off+5,aG⟩=Y (J O x.2.2.2.2.2.1)/\w.cell? ⟨p.block,p.off+6,aG⟩=Y (bI x.2.2.2.2.2.2):=by
 obtain⟨p,h1,_,h2⟩:=mH nN h hv hn hk;exact⟨p,h1,fun w hw=>⟨by simpa [ah] using h2 w hw 0 _ rfl,by simpa [ah] using h2 w hw 1 _ rfl,by simpa [ah] using h2 w hw 2 _ rfl,by simpa [ah] using h2 w hw 3 _ rfl,by simpa [ah] using h2 w hw 4 _ rfl,by simpa [ah] using h2 w hw 5 _ rfl,by simpa [ah] using h2 w hw 6 _ rfl⟩⟩
abbrev rz:=Int×Int×Sl
abbrev uZ (x:rz):List X:=[J O x.1,J O x.2.1,dX x.2.2]
abbrev Rq (x:rz):X:=aV #[J O x.1,J O x.2.1,dX x.2.2]
def EW:Ek rz:=⟨34,26,3,40,aV #[J O 0,J O 0,ak aG 0 0],Rq,uZ⟩
theorem aec:(Tryz.prog.info? 34).map (fun i=>(i.zero,i.size,i.bytes))=Y (Y (aV #[J O 0,J O 0,ak aG 0 0]),3,40):=by kernel_rfl
theorem aed (w:U) (p:bG) (x:rz) (h:∀ j u,(uZ x)[j]?=Y u->w.cell? (p.add j)=Y u):(aR 34 (aK (Y p))).run aj w=.ok (Rq x) w:=by
 have h0:=h 0 _ rfl;have h1:=h 1 _ rfl;have h2:=h 2 _ rfl;simp [ah] at h0 h1 h2;simp [go_sem,h0,h1,h2]
theorem okW:EW.Ok where
 hu:=Tryz.underlying26
 info:=by
  have h:=aec;cases hi:Tryz.prog.info? 34 with
  | none=>rw [hi] at h; cases h
  | some i =>
   rw [hi] at h;simp only [aI,aC,aM] at h;exact⟨i,hi,h.1,h.2.1,h.2.2⟩
 zs:=rfl
 len:=fun _=>rfl
 one:=fun x u hu=>by
  simp only [EW,uZ,aN,aD,or_false] at hu;rcases hu with rfl|rfl|rfl <;> rfl
 pos:=by decide
 few:=by decide
 load:=fun w p x h=>aed w p x h
abbrev Pq (W:U) (v:X) (l:List rz):Prop:=Row EW W v l
abbrev qC (W:U) (B:Nat) (v:X) (l:List rz):Prop:=Own EW W B v l
theorem elW {W:U} {v:X} {l:List rz} {ao:Option bG} {n c k:Nat} {x:rz} (h:Pq W v l) (hv:v=ak ao n c) (hn:l.length=n) (hk:l[k]?=Y x) :
  ∃ p:bG,(∀ w,(aO 26 (ak ao n c) (J O k)).run aj w=.ok (aK (Y p)) w)/\∀ w,aB W.heap.size W w->w.cell? p=Y (J O x.1)/\w.cell? ⟨p.block,p.off+1,aG⟩=Y (J O x.2.1)/\w.cell? ⟨p.block,p.off+2,aG⟩=Y (dX x.2.2):=by
 obtain⟨p,h1,_,h2⟩:=mH okW h hv hn hk;exact⟨p,h1,fun w hw=>⟨by simpa [ah] using h2 w hw 0 _ rfl,by simpa [ah] using h2 w hw 1 _ rfl,by simpa [ah] using h2 w hw 2 _ rfl⟩⟩
structure Ad where
 id:Id
 p:List C5
 par:Int
structure En where
 tree:Id
 sub:Id
 p:List C5
 from_:Int
 up:Bool
structure Ow where
 id:Id
 p:List C5
structure Br where
 me:Int
 near:List Int
 dQ:List Ad
 seen:List Id
 ent:List En
 own:List Ow
def zC (W:U) (x:jI) (a:Ad):Prop:=(x.1,x.2.1)=a.id/\x.2.2.2=a.par/\fH W (dX x.2.2.1) a.p
def kr (W:U) (x:iL) (a:En):Prop:=(x.1,x.2.1)=a.tree/\(x.2.2.1,x.2.2.2.1)=a.sub/\x.2.2.2.2.2.1=a.from_/\x.2.2.2.2.2.2=a.up/\fH W (dX x.2.2.2.2.1) a.p
def Gn (W:U) (x:rz) (a:Ow):Prop:=(x.1,x.2.1)=a.id/\fH W (dX x.2.2) a.p
theorem zC.on {W W':U} {x:jI} {a:Ad} (h:zC W x a) (hb:aB W.heap.size W W'):zC W' x a:=⟨h.1,h.2.1,h.2.2.on hb⟩
theorem kr.on {W W':U} {x:iL} {a:En} (h:kr W x a) (hb:aB W.heap.size W W'):kr W' x a:=⟨h.1,h.2.1,h.2.2.1,h.2.2.2.1,h.2.2.2.2.on hb⟩
theorem Gn.on {W W':U} {x:rz} {a:Ow} (h:Gn W x a) (hb:aB W.heap.size W W'):Gn W' x a:=⟨h.1,h.2.on hb⟩
inductive fA {α β:Type} (R:α->β->Prop):List α->List β->Prop
 | nil:fA R [] []
 | cons {a b l m} (h:R a b) (t:fA R l m):fA R (a::l) (b::m)
theorem fA.mono {α β:Type} {R S:α->β->Prop} (h:∀ a b,R a b->S a b):∀ {l m},fA R l m->fA S l m
 | _,_,.nil=>.nil
 | _,_,.cons x t=>.cons (h _ _ x) (t.mono h)
theorem fA.len {α β:Type} {R:α->β->Prop}:∀ {l m},fA R l m->l.length=m.length
 | _,_,.nil=>rfl
 | _,_,.cons _ t=>by rw [bf,bf,t.len]
theorem fA.at {α β:Type} {R:α->β->Prop}:∀ {l m} (_:fA R l m) (k:Nat) (b:β),m[k]?=Y b->∃ a,l[k]?=Y a/\R a b
 | _,_,.nil,k,b,h=>by simp at h
 | _,_,.cons x t,0,b,h=>by
  simp at h;subst h;exact⟨_,rfl,x⟩
 | _,_,.cons x t,k+1,b,h=>by
  obtain⟨a,h1,h2⟩:=t.at k b (by simpa using h);exact⟨a,by simpa using h1,h2⟩
theorem fA.append {α β:Type} {R:α->β->Prop}:∀ {l m l' m'},fA R l m->fA R l' m'->fA R (l++l') (m++m')
 | _,_,_,_,.nil,h=>h
 | _,_,_,_,.cons x t,h=>.cons x (t.append h)
theorem fA.take {α β:Type} {R:α->β->Prop}:∀ {l m} (k:Nat),fA R l m->fA R (l.take k) (m.take k)
 | _,_,0,_=>by simp only [List.take_zero]; exact .nil
 | _,_,k+1,.nil=>by simp only [List.take_nil]; exact .nil
 | _,_,k+1,.cons x t=>.cons x (t.take k)
theorem fA.drop {α β:Type} {R:α->β->Prop}:∀ {l m} (k:Nat),fA R l m->fA R (l.drop k) (m.drop k)
 | _,_,0,h=>h
 | _,_,_k+1,.nil=>.nil
 | _,_,k+1,.cons _ t=>t.drop k
structure iZ (W:U) (b:Br) (nv av sv ev ov:Sl):Prop where
 near:qA W (dX nv) b.near
 dQ:∃ l,vT W (dX av) l/\fA (zC W) l b.dQ
 seen:uY W (dX sv) b.seen
 ent:∃ l,lF W (dX ev) l/\fA (kr W) l b.ent
 own:∃ l,Pq W (dX ov) l/\fA (Gn W) l b.own
theorem iZ.on {W W':U} {b:Br} {nv av sv ev ov:Sl} (h:iZ W b nv av sv ev ov) (hb:aB W.heap.size W W'):iZ W' b nv av sv ev ov where
 near:=h.near.on hb
 dQ:=by obtain⟨l,h1,h2⟩:=h.dQ; exact⟨l,h1.on hb,h2.mono fun _ _ h=>h.on hb⟩
 seen:=h.seen.on hb
 ent:=by obtain⟨l,h1,h2⟩:=h.ent; exact⟨l,h1.on hb,h2.mono fun _ _ h=>h.on hb⟩
 own:=by obtain⟨l,h1,h2⟩:=h.own; exact⟨l,h1.on hb,h2.mono fun _ _ h=>h.on hb⟩
abbrev oK (me:Int) (nv av sv ev ov:Sl):X:=aV #[J O me,dX nv,dX av,dX sv,dX ev,dX ov]
abbrev jr (me:Int) (nv av sv ev ov:Sl):Array X:=#[J O me,dX nv,dX av,dX sv,dX ev,dX ov]
def eP (a b:Id):Bool:=decide (a.1<b.1) || (a.1 == b.1 && decide (a.2<b.2))
def fI:List Id->Id->Int
 | [],_=>-1
 | a::l,x=>if a=x then 0 else if fI l x=-1 then -1 else fI l x+1
def fM (l:List Id) (x:Id):Nat:=(l.takeWhile fun a=>eP a x).length
abbrev mZ (x:Id):X:=aV #[J O x.1,J O x.2]
theorem Mg:Tryz.prog.stoodInHeld 31=bQ:=by kernel_rfl
theorem uw (a b c d:Int) (r:Bool) (h:(a == c && b == d)=r) (w:U):(binOp .eql 31 (aV #[J O a,J O b]) (aV #[J O c,J O d])).run aj w=.ok (bI r) w:=by
 have st:=Mg;subst h;by_cases h1:a=c <;> by_cases h2:b=d <;> simp [go_sem,Tryz.underlying31,Tryz.underlying3,st,h1,h2]
theorem gu (w:U) (o:Obj):aB w.heap.size w (w.alloc o):=(aF _ _).alloc (aH _) _
theorem gY (w:U) (c d:Array X) (s t:aY):aB w.heap.size w ((w.alloc (aJ c s)).alloc (aJ d t))/\dJ ((w.alloc (aJ c s)).alloc (aJ d t)) w.heap.size c s/\dJ ((w.alloc (aJ c s)).alloc (aJ d t)) (w.heap.size+1) d t:=by
 refine⟨((aF _ _).alloc (aH _) _).alloc (by simp) _,(dO w c s).more _,?_⟩;have h:=dO (w.alloc (aJ c s)) d t;simpa using h
theorem sF (x y:Id) (w:U):Calls aj 74 #[mZ x,mZ y] w fun e w'=>e=.returned (bI (eP x y))/\aB w.heap.size w w':=by
 obtain⟨a,b⟩:=x;obtain⟨c,d⟩:=y;obtain⟨h0,h1,h2⟩:=gY w #[J O a,J O b] #[J O c,J O d] 31 31;have B:=au h0;obtain⟨a0,a1⟩:=h1.cs2;obtain⟨b0,b1⟩:=h2.cs2;have R:=au (show eP (a,b) (c,d)=(decide (a<c) || (a == c && decide (b<d))) from rfl);generalize eP (a,b) (c,d)=r at *;obtain⟨r1,e1⟩:∃ r,decide (a<c)=r:=⟨_,rfl⟩;obtain⟨r2,e2⟩:∃ r,(a == c)=r:=⟨_,rfl⟩;obtain⟨r3,e3⟩:∃ r,decide (b<d)=r:=⟨_,rfl⟩;rw [e1,e2,e3] at R;clear h0 h1 h2;go_enter Tryz.func74,Tryz.ntmps74;cases r1 <;> cases r2
 all_goals
  go_wp2;go_ret;exact⟨by rw [R.out]; simp,B.out⟩
theorem Pt (me:Int) (nv av ev ov:X) (sv:Sl) (l:List Id) (x:Id) (w:U) (hs:uY w (dX sv) l) :
  Calls aj 106 #[aV #[J O me,nv,av,dX sv,ev,ov],mZ x] w fun e w'=>e=.returned (bI (decide (x∈l)))/\aB w.heap.size w w':=by
 obtain⟨c,d⟩:=x;obtain⟨so,sn,sc⟩:=sv;obtain⟨ao,ac,hv⟩:=hs.len;have hv:ak so sn sc=ak ao l.length ac:=hv;obtain⟨rfl,rfl,rfl⟩:so=ao/\sn=l.length/\sc=ac:=by simpa using hv
 obtain⟨h0,h1,h2⟩:=gY w #[J O me,nv,av,ak so l.length sc,ev,ov] #[J O c,J O d] 28 31;have B:=au h0;have HS:=au (hs.on h0);have X2:=au h1;have X3:=au h2;have lm:=hs.most;unfold maxLen at lm;obtain⟨n,hn⟩:∃ n,n=l.length:=⟨_,rfl⟩;have q3:=h1.cell 3;simp only [aT,aP,aQ] at q3;rw [<- hn] at HS X2 lm q3 B X3 ⊢;have HN:=au hn.symm;clear h0 h1 h2 hs hv hn;go_enter Tryz.func106,Tryz.ntmps106;go_upto_region 1 with fail;generalize (w.alloc (aJ #[J O me,nv,av,ak so n sc,ev,ov] 28)).alloc (aJ #[J O c,J O d] 31)=W at *;go_wp2
 go_loopw [10] (fun i wr=>∃ k:Nat,k<=n/\i=J O k/\aB W.heap.size W wr/\∀ (j:Nat) (y:Id),j<k->l[j]?=Y y->y≠(c,d)) (fun i _=>n-(intOf i).toNat)
 case atStart=>exact⟨0,bF _,rfl,aF _ _,fun j y h=>by omega⟩
 case round =>
  obtain⟨k,hk,rfl,hbe,hall⟩:=hrel;have BE:=au hbe;have AL:=au hall;clear hbe hall;by_cases hlt:k<n
  ·obtain⟨y,hy⟩:∃ y,l[k]?=Y y:=⟨_,aA (by rw [HN.out]; exact hlt)⟩;obtain⟨p,ix,px⟩:=elJ HS.out rfl HN.out hy;obtain⟨p0,p1⟩:=px wr BE.out;obtain⟨y1,y2⟩:=y;simp only at p0 p1;have NB:=au (gu wr (aJ #[J O y1,J O y2] 31));obtain⟨x0,x1⟩:=((X3.out.on BE.out).on NB.out).cs2;have hw3:IntKind.i64.wrap ((k:Int)+1)=(k:Int)+1:=IntWalk.i64_in _ (by omega);obtain⟨r,hr⟩:∃ r,(y1 == c && y2 == d)=r:=⟨_,rfl⟩;have he:=uw y1 y2 c d r hr;have HY:=au hy;have HR:=au hr;clear px hy hr;cases r
   ·go_wp2
    go_roundw
    case rel=>exact⟨k+1,by omega,by go_num,BE.out.trans (NB.out.mono BE.out.size),fun j y' hj h1=>by
     rcases ay j k with h3|h3
     ·exact AL.out j y' h3 h1
     ·obtain rfl:j=k:=by omega
      have e1:=HY.out;rw [h1] at e1;rw [bH e1];intro e;obtain⟨rfl,rfl⟩:y1=c/\y2=d:=by simpa using e
      have:=HR.out;simp at this⟩
    case measure=>simp [intOf]; omega
   ·go_wp2;go_ret;have h8:=HR.out;obtain⟨rfl,rfl⟩:y1=c/\y2=d:=by simpa using h8
    exact⟨by rw [decide_eq_true (List.mem_of_getElem? HY.out)]; rfl,B.out.trans ((BE.out.trans (NB.out.mono BE.out.size)).mono B.out.size)⟩
  ·obtain rfl:k=n:=by omega
   go_wp2;go_ret;have hd:decide ((c,d)∈l)=bQ:=decide_eq_false fun hm=>by
    obtain⟨j,hj,hje⟩:=List.getElem_of_mem hm;exact AL.out j (c,d) (by rw [<- HN.out]; exact hj) (by rw [aA hj,hje]) rfl
   exact⟨by rw [hd]; rfl,B.out.trans (BE.out.mono B.out.size)⟩
theorem ng:∀ (l:List Id) (x:Id),-1<=fI l x
 | [],_=>by simp [fI]
 | a::l,x=>by
  unfold fI;have:=ng l x
  split
  ·omega
  ·split <;> omega
theorem Pv (l:List jI) (x:Id) (h:∀ (j:Nat) (y:jI),l[j]?=Y y->(y.1,y.2.1)≠x):fI (l.map fun y=>(y.1,y.2.1)) x=-1:=by
 induction l with
 | nil=>rfl
 | cons a l ih =>
  rw [aX,fI,if_neg (h 0 a rfl),ih fun j y hj=>h (j+1) y (by simpa using hj),if_pos rfl]
theorem XI (l:List jI) (k:Nat) (x:Id) (y:jI) (h:l[k]?=Y y) (hx:(y.1,y.2.1)=x) (hall:∀ (j:Nat) (z:jI),j<k->l[j]?=Y z->(z.1,z.2.1)≠x):fI (l.map fun y=>(y.1,y.2.1)) x=k:=by
 induction l generalizing k with
 | nil=>simp at h
 | cons a l ih =>
  cases k with
  | zero =>
   obtain rfl:a=y:=by simpa using h
   rw [aX,fI,if_pos hx]
   rfl
  | succ k =>
   have h2:=ih k (by simpa using h) fun j z hj hz=>hall (j+1) z (by omega) (by simpa using hz);rw [aX,fI,if_neg (hall 0 a (by omega) rfl),h2,if_neg (by omega)];omega
theorem tN (me:Int) (nv ev sv ov:X) (av:Sl) (l:List jI) (x:Id) (w:U) (hs:vT w (dX av) l) :
  Calls aj 104 #[aV #[J O me,nv,dX av,sv,ev,ov],mZ x] w fun e w'=>e=.returned (J O (fI (l.map fun y=>(y.1,y.2.1)) x))/\aB w.heap.size w w':=by
 obtain⟨c,d⟩:=x;obtain⟨so,sn,sc⟩:=av;obtain⟨ao,ac,hv⟩:=hs.len;have hv:ak so sn sc=ak ao l.length ac:=hv;obtain⟨rfl,rfl,rfl⟩:so=ao/\sn=l.length/\sc=ac:=by simpa using hv
 obtain⟨h0,h1,h2⟩:=gY w #[J O me,nv,ak so l.length sc,sv,ev,ov] #[J O c,J O d] 28 31;have B:=au h0;have HS:=au (hs.on h0);have X2:=au h1;have X3:=au h2;have lm:=hs.most;unfold maxLen at lm;obtain⟨n,hn⟩:∃ n,n=l.length:=⟨_,rfl⟩;have q3:=h1.cell 2;simp only [aT,aP,aQ] at q3;rw [<- hn] at HS X2 lm q3 B X3 ⊢;have HN:=au hn.symm;clear h0 h1 h2 hs hv hn;go_enter Tryz.func104,Tryz.ntmps104;go_upto_region 1 with fail;generalize (w.alloc (aJ #[J O me,nv,ak so n sc,sv,ev,ov] 28)).alloc (aJ #[J O c,J O d] 31)=W at *;go_wp2
 go_loopw [10] (fun i wr=>∃ k:Nat,k<=n/\i=J O k/\aB W.heap.size W wr/\∀ (j:Nat) (y:jI),j<k->l[j]?=Y y->(y.1,y.2.1)≠(c,d)) (fun i _=>n-(intOf i).toNat)
 case atStart=>exact⟨0,bF _,rfl,aF _ _,fun j y h=>by omega⟩
 case round =>
  obtain⟨k,hk,rfl,hbe,hall⟩:=hrel;have BE:=au hbe;have AL:=au hall;clear hbe hall;by_cases hlt:k<n
  ·obtain⟨y,hy⟩:∃ y,l[k]?=Y y:=⟨_,aA (by rw [HN.out]; exact hlt)⟩;obtain⟨p,ix,px⟩:=Mf HS.out rfl HN.out hy;obtain⟨p0,p1,p2,p3⟩:=px wr BE.out;obtain⟨y1,y2,⟨yo,yn,yc⟩,y4⟩:=y;simp only at p0 p1 p2 p3;have NB:=au (gu wr (aJ #[J O y1,J O y2,ak yo yn yc,J O y4] 74));obtain⟨x0,x1⟩:=((X3.out.on BE.out).on NB.out).cs2;have hw3:IntKind.i64.wrap ((k:Int)+1)=(k:Int)+1:=IntWalk.i64_in _ (by omega);obtain⟨r,hr⟩:∃ r,(y1 == c && y2 == d)=r:=⟨_,rfl⟩;have he:=uw y1 y2 c d r hr;have HY:=au hy;have HR:=au hr;clear px hy hr;cases r
   ·go_wp2
    go_roundw
    case rel=>exact⟨k+1,by omega,by go_num,BE.out.trans (NB.out.mono BE.out.size),fun j y' hj h1=>by
     rcases ay j k with h3|h3
     ·exact AL.out j y' h3 h1
     ·obtain rfl:j=k:=by omega
      have e1:=HY.out;rw [h1] at e1;rw [bH e1];intro e;obtain⟨rfl,rfl⟩:y1=c/\y2=d:=by simpa using e
      have:=HR.out;simp at this⟩
    case measure=>simp [intOf]; omega
   ·go_wp2;go_ret;have h8:=HR.out;obtain⟨rfl,rfl⟩:y1=c/\y2=d:=by simpa using h8
    exact⟨by rw [XI l k (y1,y2) _ HY.out rfl AL.out]; rfl,B.out.trans ((BE.out.trans (NB.out.mono BE.out.size)).mono B.out.size)⟩
  ·obtain rfl:k=n:=by omega
   go_wp2;go_ret;have hd:fI (l.map fun y=>(y.1,y.2.1)) (c,d)=-1:=Pv l (c,d) fun j y hj=>AL.out j y (by rw [<- HN.out]; exact (aL.1 hj).1) hj;exact⟨by rw [hd]; rfl,B.out.trans (BE.out.mono B.out.size)⟩
end Bk
namespace Rg
open Go.RowKit
theorem wpOp_mono {P:Program} {ops:Array Oper} {Q:Exit->bN->U->Prop} {i:Nat} {K K':bN->U->Prop} {a:bN} {w:U} (h:∀ a w,K a w->K' a w) (hw:wpOp P ops Q i K a w):wpOp P ops Q i K' a w:=by
 unfold wpOp at hw ⊢;cases ho:ops[i]? with
 | none =>
  rw [ho] at hw;exact h _ _ hw
 | some o =>
  rw [ho] at hw;simp only at hw ⊢
  split at hw
  ·rename_i h1
   rw [if_pos h1];rcases hw with hw|hw
   ·exact aZ (Oper.wp_mono h hw)
   ·exact aS hw
  ·rename_i h1
   rw [if_neg h1];exact h _ _ hw
def fG (P:Program) (ops:Array Oper) (Q:Exit->bN->U->Prop):Nat->Nat->bN->U->Prop
 | 0,_,a,w=>Q .normal a w
 | n+1,k,a,w=>wpOp P ops Q k (fun a w=>fG P ops Q n (k+1) a w) a w
structure Zh (i M:Nat) (dst last:Nat->Nat) (V:Nat->X->U->Prop) (base:bN) (o:Oper) (a:bN) (w:U):Prop where
 kp:∀ j u,(∀ k,k<M->dst k≠j)->base.tmps[j]?=Y u->a.eval (.tmp j)=u
 at_:∀ e∈o.after,Z .any e=aU->(last e.on=i\/M<=last e.on)->V e.on (a.eval (.tmp (dst e.on))) w
 got:∀ e∈o.after,Z .any e=aU->a.tmps[dst e.on]?=Y (a.eval (.tmp (dst e.on)))
structure PhL (l:List Oper) (M:Nat) (dst last:Nat->Nat) (V:Nat->X->U->Prop) (base:bN) (w:U) (L:Array Bool) (a:bN) (x:U):Prop where
 no:∀ i,M<=i->¬ done L i
 cl:∀ i o,done L i->l[i]?=Y o->∀ e∈o.after,Z .any e=aU->done L e.on
 df:a.defers=base.defers
 sz:a.tmps.size=base.tmps.size
 kp:∀ j,(∀ i,i<M->dst i≠j)->a.tmps[j]?=base.tmps[j]?
 uI:aB w.heap.size w x
 val:∃ vs:Nat->X,∀ i,i<M->done L i->a.tmps[dst i]?=Y (vs i)/\(¬ done L (last i)->V i (vs i) x)
theorem fT {P:Program} {Q:Exit->bN->U->Prop} {id:Nat} {base:bN} {w:U} {l:List Oper} (N M:Nat) (dst last:Nat->Nat) (V:Nat->X->U->Prop)
  (hm:P.follows .mixedOrders=aU) (hf:Pg l.toArray=aU) (hN:l.length=N) (hMN:M<=N) (hinj:∀ i j,i<M->j<M->dst i=dst j->i=j) (hs:∀ i,i<M->dst i<base.tmps.size)
  (hop:∀ i o,i<M->l[i]?=Y o->∀ a w' (D:Nat->Prop),¬ D i->(∀ j oj,D j->l[j]?=Y oj->∀ e∈oj.after,Z .any e=aU->D e.on)->(∀ e∈o.after,Z .any e=aU->D e.on)->aB w.heap.size w w'->Zh i M dst last V base o a w'->∀ K:bN->U->Prop,(∀ v w'',V i v w''->aB w.heap.size w' w''->(∀ j u,j<M->D j->¬ D (last j)->last j≠i->j≠i->V j u w'->V j u w'')->K (a.put (Y (dst i)) v) w'')->wpOp P l.toArray Q i K a w')
  (hall:M<N->∀ D:Nat->Prop,(∀ j o,D j->l[j]?=Y o->∀ e∈o.after,Z .any e=aU->D e.on)->(∀ o,l[M]?=Y o->∀ e∈o.after,Z .any e=aU->D e.on)->∀ i,i<M->D i)
  (hnext:∀ k o,M<k->k<N->l[k]?=Y o->∃ e∈o.after,Z .any e=aU/\e.on=k-1)
  (hseq:∀ a w',a.defers=base.defers->a.tmps.size=base.tmps.size->(∀ j,(∀ i,i<M->dst i≠j)->a.tmps[j]?=base.tmps[j]?)->(∃ vs:Nat->X,∀ i,i<M->a.tmps[dst i]?=Y (vs i)/\(M<=last i->V i (vs i) w'))->aB w.heap.size w w'->fG P l.toArray Q (N-M) M a w'):(Code.region id l.toArray aU).wp P Q base w:=by
 refine ru (fun L a x=>PhL l M dst last V base w L a x\/∃ s,1<=s/\M+s<=N/\(∀ i,i<N->(done L i↔i<M+s))/\fG P l.toArray Q (N-M-s) (M+s) a x) hm hf ?_ ?_ ?_
 ·exact aZ ⟨fun i _=>gN _ _,fun i o h=>absurd h (gN _ _),rfl,rfl,fun _ _=>rfl,(aF _ _).drew,fun _=>.bool aU,fun i _ h=>absurd h (gN _ _)⟩
 ·intro L a x i o hsz hI ho hnd om;have hi:i<l.length:=(aL.1 ho).1;have Ch:i<L.size:=by omega
  rcases hI with I|⟨s,h1,h2,h3,h4⟩
  ·rcases ay i M with hiM|hiM
   ·obtain⟨vs,q1⟩:=I.val;have hon:∀ e∈o.after,Z .any e=aU->e.on<M:=fun e he hb=>by
     have h7:=bg.1 hf i (bJ.2 (by simpa using hi));have ho':(l.toArray)[i]?=Y o:=by simpa using ho
     rw [ho'] at h7;have h8:=Array.all_eq_true'.1 h7 e he;rw [hb] at h8;have:e.on<i:=by simpa using h8
     omega
    have seen:Zh i M dst last V base o a x:=⟨fun j u hj hu=>dM (by rw [I.kp j hj]; exact hu),fun e he hbd hl=>by
     obtain⟨p1,p2⟩:=q1 e.on (hon e he hbd) (om e he hbd);rw [dM p1];refine p2 ?_;rcases hl with hl|hl
     ·rw [hl]; exact hnd
     ·exact I.no _ hl,fun e he hbd=>by
     obtain⟨p1,p2⟩:=q1 e.on (hon e he hbd) (om e he hbd);rw [dM p1];exact p1⟩
    refine hop i o hiM ho a x (done L) hnd I.cl om I.uI seen _ fun v w'' hvw hbw hpr=>aZ ?_;refine⟨fun k hk hd=>?_,fun k q hk hq e he hb=>?_,I.df,by rw [size_put]; exact I.sz,fun j hj=>?_,I.uI.trans hbw,fun k=>if k=i then v else vs k,fun k XJ hk=>?_⟩
    ·rcases (iC Ch k).1 hd with h9|h9
     ·omega
     ·exact I.no k hk h9
    ·rw [iC Ch] at hk ⊢;rcases hk with rfl|hk
     ·rw [hq] at ho;cases ho;exact aS (om e he hb)
     ·exact aS (I.cl k q hk hq e he hb)
    ·rw [get_put _ _ _ _ (fun e=>hj i hiM e.symm)];exact I.kp j hj
    ·by_cases e:k=i
     ·subst e;have:dst k<a.tmps.size:=by rw [I.sz]; exact hs k XJ
      simp only [if_true];exact⟨by simp [Act.put,this],fun _=>hvw⟩
     ·simp only [if_neg e];rw [get_put _ _ _ _ (fun e2=>e (hinj k i XJ hiM e2))];rcases (iC Ch k).1 hk with h9|h9
      ·exact absurd h9 e
      ·obtain⟨p1,p2⟩:=q1 k XJ h9;refine⟨p1,fun hn=>?_⟩;have n1:last k≠i:=fun e3=>hn ((iC Ch _).2 (aZ e3));have n2:¬ done L (last k):=fun e3=>hn ((iC Ch _).2 (aS e3));exact hpr k _ XJ h9 n2 n1 e (p2 n2)
   ·have agQ:i=M:=by
     rcases ay M i with h9|h9
     ·obtain⟨e,he,hb,hon⟩:=hnext i o h9 (by omega) ho;have hd:=om e he hb;rw [hon] at hd;exact absurd hd (I.no _ (by omega))
     ·omega
    subst agQ;have hD:=hall (by omega) (done L) I.cl (fun o' ho' e he hb=>by
     rw [ho] at ho';cases ho';exact om e he hb)
    obtain⟨vs,q1⟩:=I.val;have hq:=hseq a x I.df I.sz I.kp ⟨vs,fun k hk=>⟨(q1 k hk (hD k hk)).1,fun hl=>(q1 k hk (hD k hk)).2 (I.no _ hl)⟩⟩ I.uI;rw [show N-i=(N-i-1)+1 by omega] at hq;refine wpOp_mono (fun a' x' h=>aS ⟨1,aH _,by omega,fun k hk=>?_,h⟩) hq;rw [iC Ch];constructor
    ·rintro (rfl|h9)
     ·omega
     ·rcases ay k i with h8|h8
      ·omega
      ·exact absurd h9 (I.no k h8)
    ·intro h9;by_cases e:k=i
     ·exact aZ e
     ·exact aS (hD k (by omega))
  ·have hge:M+s<=i:=by
    rcases ay i (M+s) with h9|h9
    ·exact absurd ((h3 i (by omega)).2 h9) hnd
    ·exact h9
   have hie:i=M+s:=by
    rcases ay (M+s) i with h9|h9
    ·obtain⟨e,he,hb,hon⟩:=hnext i o (by omega) (by omega) ho;have hd:=om e he hb;rw [hon] at hd;have:=(h3 (i-1) (by omega)).1 hd;omega
    ·omega
   subst hie;rw [show N-M-s=(N-M-(s+1))+1 by omega] at h4;refine wpOp_mono (fun a' x' h=>aS ⟨s+1,by omega,by omega,fun k hk=>?_,h⟩) h4;rw [iC Ch];constructor
   ·rintro (rfl|h9)
    ·omega
    ·have:=(h3 k hk).1 h9;omega
   ·intro h9;by_cases e:k=M+s
    ·exact aZ e
    ·exact aS ((h3 k hk).2 (by omega))
 ·intro L a x hI hd;rcases hI with I|⟨s,h1,h2,h3,h4⟩
  ·rcases ay M N with h9|h9
   ·exact absurd (hd M (by omega)) (I.no M (aH _))
   ·obtain⟨vs,q1⟩:=I.val;have hq:=hseq a x I.df I.sz I.kp ⟨vs,fun k hk=>⟨(q1 k hk (hd k (by omega))).1,fun hl=>(q1 k hk (hd k (by omega))).2 (I.no _ hl)⟩⟩ I.uI;rw [show N-M=0 by omega] at hq;exact hq
  ·have:=(h3 (N-1) (by omega)).1 (hd (N-1) (by omega));rw [show N-M-s=0 by omega] at h4;exact h4
theorem jP {P:Program} (ρ:aW->X) (o:Oper) (t:aY) (parts:Array (Nat×aW)) (ho:o.op=.build t parts) {ps:Array (Nat×X)} (hp:parts.map (fun x=>(x.1,ρ x.2))=ps) {v:X} {w:U} (hr:(Instr.build t ps).run P w=.ok v w) :
  (execOp ρ o).run P w=.ok (.value v) w:=by
 subst hp;simp [execOp,ho,hr,Result.andThen]
theorem Rs {P:Program} (ρ:aW->X) (o:Oper) (t:aY) (x y:aW) (ho:o.op=.store t x y) {w w':U} (hr:(bL t (ρ x) (ρ y)).run P w=.ok () w') :
  (execOp ρ o).run P w=.ok .skip w':=by
 simp [execOp,ho,hr,Result.andThen]
theorem fQ {P:Program} {ops:Array Oper} {Q:Exit->bN->U->Prop} {K:bN->U->Prop} {a:bN} {w w':U} {i:Nat} {o:Oper} (t:aY) (x y:aW) {p v:X}
  (ho:ops[i]?=Y o) (hg:o.guard=aG) (hop:o.op=.store t x y) (hd:o.dst=aG) (hx:a.eval x=p) (hy:a.eval y=v) (hr:(bL t p v).run P w=.ok () w') (h:K a w'):wpOp P ops Q i K a w:=by
 refine XH ho hg (Rs a.eval o t x y hop (by rw [hx,hy]; exact hr)) ?_;rw [hd];exact h
def Ev (l:List Oper) (i:Nat):List Nat:=match l[i]? with
 | some o=>(o.after.toList.filter fun e=>Z .any e).map fun e=>e.on
 | none=>[]
def J5 (l:List Oper):Nat->List Nat->List Nat
 | 0,s=>s
 | n+1,s=>J5 l n (s++s.flatMap (Ev l))
theorem Mh {l:List Oper} {D:Nat->Prop} {i:Nat} (h:∀ o,l[i]?=Y o->∀ e∈o.after,Z .any e=aU->D e.on):∀ j∈Ev l i,D j:=by
 intro j hj;unfold Ev at hj;cases ho:l[i]? with
 | none=>rw [ho] at hj; cases hj
 | some o =>
  rw [ho] at hj;obtain⟨e,he,rfl⟩:=List.mem_map.1 hj;obtain⟨h1,h2⟩:=List.mem_filter.1 he;exact h o ho e (Array.mem_toList_iff.1 h1) h2
theorem Gp {l:List Oper} {D:Nat->Prop} (hc:∀ j o,D j->l[j]?=Y o->∀ e∈o.after,Z .any e=aU->D e.on):∀ n s,(∀ j∈s,D j)->∀ j∈J5 l n s,D j
 | 0,_,hs=>hs
 | n+1,s,hs=>Gp hc n _ fun j hj=>by
  rcases List.mem_append.1 hj with h|h
  ·exact hs j h
  ·obtain⟨i,hi,hd⟩:=List.mem_flatMap.1 h;exact Mh (fun o ho=>hc i o (hs i hi) ho) j hd
theorem jk {l:List Oper} {M:Nat} (n:Nat) (h:(List.range M).all (fun i=>(J5 l n (Ev l M)).contains i)=aU) (D:Nat->Prop) (hc:∀ j o,D j->l[j]?=Y o->∀ e∈o.after,Z .any e=aU->D e.on) (hm:∀ o,l[M]?=Y o->∀ e∈o.after,Z .any e=aU->D e.on):∀ i,i<M->D i:=by
 intro i hi;have h2:=bg.1 h i (bJ.2 hi);exact Gp hc n _ (Mh hm) i (List.contains_iff_mem.1 h2)
theorem zD {P:Program} (ρ:aW->X) (o:Oper) (t:aY) (ho:o.op=.alloc t) {v:X} {w w':U} (hr:(Instr.alloc t aU (.tuple #[])).run P w=.ok v w'):(execOp ρ o).run P w=.ok (.value v) w':=by
 simp [execOp,ho,hr,Result.andThen]
end Rg
namespace Rw
open Go.RowKit
theorem jc {α:Type} {E:Ek α} (K:E.Ok) {w:U} (B:Nat) {g:Nat} {x:X} {m:List α} (mo:dJ w g #[] E.t) (hBg:B<=g) (hx:Row E w x m) (hm:m.length<=1000) (ty:aY) :
  ∃ v' w',(Builtin.append_ #[E.ts,E.ts] ty #[ak (Y ⟨g,0,aG⟩) 0 0,x]).run aj w=.ok v' w'/\Own E w' B v' m/\aB w.heap.size w w':=by
 have ho:Own E w B (ak (Y ⟨g,0,aG⟩) 0 0) ([]:List α):=qB K rfl hBg mo (aH _) (bF _) (by simp) (by simp [flat]);have hl:=mo.lt;obtain⟨v',w',r,o',gr⟩:=gI K B ho hx (by simp) hm (by omega) ty;refine⟨v',w',r,by simpa using o',?_⟩;obtain⟨i,i1,i2,i3,i4⟩:=K.info;rcases hx with⟨rfl,rfl⟩|⟨ad,c,rfl,h2,h3,h4⟩
 ·have r2:=run_append_owned_none (P:=aj) (w:=w) B E.ts ty E.t i E.n K.hu i1 _ _ _ ho;rw [r2] at r;injection r with _ e
  rw [<- e];exact aF _ _
 ·rcases Nat.eq_zero_or_pos m.length with h0|h0
  ·have r2:=run_append_room (P:=aj) (w:=w) E.ts ty E.t i K.hu i1 g 0 0 #[] mo ad m.length c (flat E m) (by rw [eG K,i3]) h4 (qw K m) (by omega) (by rw [eG K,h0]; simp);rw [r2] at r;injection r with _ e
   rw [<- e];have hf:flat E m=[]:=List.eq_nil_of_length_eq_zero (by rw [eG K,h0]; simp);have hs:=dJ.set mo ((#[]:Array X).toList.take (0 * i.size)++flat E m++(#[]:Array X).toList.drop (0 * i.size+(flat E m).length)).toArray;refine⟨rfl,rfl,rfl,by simp [World.setRow],fun k hk=>?_⟩;by_cases hkg:k=g
   ·subst hkg;refine hs.trans ?_;rw [hf];simpa using mo.symm
   ·exact setRow_other w g k _ hkg
  ·have r2:=run_append_grow (P:=aj) (w:=w) E.ts ty E.t i E.z K.hu i1 i2 ⟨g,0,aG⟩ 0 0 [] (by simp) (fun j v h=>by simp at h) ad m.length c (flat E m) (by rw [eG K,i3]) h4 (by omega) (by omega) (by
    rw [Nat.zero_add,nextslicecap_zero h0,i4];exact bM (Nat.mul_le_mul hm K.few) (by decide))
   rw [r2] at r;injection r with _ e
   rw [<- e];exact (aF _ _).drew.alloc (aH _) _
end Rw
namespace Bk
open Go.RowKit Rw
theorem dN {α:Type} {E:Ek α} {W:U} {B C:Nat} {v:X} {l:List α} (h:Own E W B v l) (hc:C<=B):Own E W C v l:=by
 refine⟨h.1,?_⟩;rcases h.2 with h2|⟨g,cap,cur,h1,h2,h3⟩
 ·exact aZ h2
 ·exact aS ⟨g,cap,cur,h1,bM hc h2,h3⟩
theorem dI {α:Type} {E:Ek α} {W W':U} {B:Nat} {v:X} {l:List α} (h:Own E W B v l) (hb:aB W.heap.size W W'):Own E W' B v l :=
 h.kept (w':=W') (row:=aG) ⟨hb.os,hb.tape,hb.output,hb.size,fun k hk _=>hb.block k hk⟩ (by cases v.ownBlock <;> simp)
theorem eO {α:Type} {E:Ek α} {W:U} {B:Nat} {v:X} {l:List α} (h:Own E W B v l) (b k:Nat) (x:X) (hb:b<B):Own E (W.setCell ⟨b,k,aG⟩ x) B v l :=
 h.kept (w':=W.setCell ⟨b,k,aG⟩ x) (row:=Y b) ⟨rfl,rfl,rfl,by simp [World.setCell],fun j _ hne=>bK _ _ _ _ (fun e=>hne (by rw [e]))⟩ (by
  cases hv:v.ownBlock with
  | none=>exact aZ rfl
  | some j =>
   refine aS fun e=>?_;injection e with e
   have h1:=(h.lt j hv).1;omega)
theorem add_one (x y:aW) (t:aY) (w:U) (k:Nat) (hk:k<=900):(do eqGuard .add t x y (J O k) (J O 1); binOp .add t (J O k) (J O 1):Sem X).run aj w=.ok (J O ((k:Int)+1)) w:=by
 have h:IntKind.i64.wrap ((k:Int)+1)=(k:Int)+1:=IntWalk.i64_in _ (by omega);simp [eqGuard,binOp,Op.intArith,go_sem,h]
theorem dR {W:U} {rb k:Nat} {cs:Array X} {t:aY} (h:dJ W rb cs t) (x:X):dJ (W.setCell ⟨rb,k,aG⟩ x) rb (cs.setIfInBounds k x) t:=heap_setCell_same W rb k cs t x h
end Bk
end Go.Proofs.YtmklifheakemeaaGreat
