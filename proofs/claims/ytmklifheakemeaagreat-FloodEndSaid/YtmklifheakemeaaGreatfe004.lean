/-
  Rows of IDs, of adve. Conditions as told.
-/
import Derived.Test.YtmklifheakemeaaGreatfe001
import Derived.Test.YtmklifheakemeaaGreatfe003
import Derived.Lib.Hide
set_option maxRecDepth 100000
set_option maxHeartbeats 64000000
open _root_.Go renaming World->U,Value->V,Addr->aM
open Go.Addr renaming add->K
open Go.Instr renaming indexAt->aC,loadAt->aH
open Go.IntKind renaming i64->J
open Go.Lib renaming hid->L
open Go.Obj renaming cells->ak
open Go.Proofs.Tryz renaming prog->X
open Go.RowKit renaming Below->ay
open Go.Value renaming int->D,slice->Q,pointer->au,agg->aJ,bool->aO
open _root_.List renaming getElem?_eq_getElem->Y,not_mem_nil->ah,mem_cons->aB,getElem?_cons_zero->aF,getElem?_cons_succ->aG,getElem?_toArray->aI,map_cons->aK,length_cons->aL
open _root_.Option renaming some->O,map_some->aj,none->aD
open Option.some renaming injEq->Z,inj->aN
open Prod.mk renaming injEq->aA
namespace Go.Proofs.YtmklifheakemeaaGreat.Bk
open Go.RowKit Rw YtmklifheakemeaaGreat.Nm Pr
abbrev Sl:=Option aM×Nat×Nat
abbrev dU (s:Sl):V:=Q s.1 s.2.1 s.2.2
abbrev Id:=Int×Int
abbrev fC:=Id
abbrev jO (x:fC):List V:=[D J x.1,D J x.2]
abbrev RF (x:fC):V:=aJ #[D J x.1,D J x.2]
def EJ:Ek fC:=⟨31,24,2,16,aJ #[D J 0,D J 0],RF,jO⟩
theorem aeb:(Tryz.prog.info? 31).map (fun i=>(i.zero,i.size,i.bytes))=O (O (aJ #[D J 0,D J 0]),2,16):=by kernel_rfl
theorem Dw (w:U) (p:aM) (x:fC) (h:∀ j u,(jO x)[j]?=O u->w.cell? (p.add j)=O u):(aH 31 (au (O p))).run X w=.ok (RF x) w:=by
 have h0:=h 0 _ rfl;have h1:=h 1 _ rfl;simp [K] at h0 h1;simp [go_sem,h0,h1]
theorem CY:EJ.Ok where
 hu:=Tryz.underlying24
 info:=by
  have h:=aeb;cases hi:Tryz.prog.info? 31 with
  | none=>rw [hi] at h; cases h
  | some i =>
   rw [hi] at h;simp only [aj,Z,aA] at h;exact⟨i,hi,h.1,h.2.1,h.2.2⟩
 zs:=rfl
 len:=fun _=>rfl
 one:=fun x u hu=>by
  simp only [EJ,jO,aB,ah,or_false] at hu;rcases hu with rfl|rfl <;> rfl
 pos:=by decide
 few:=by decide
 load:=fun w p x h=>Dw w p x h
abbrev vT (W:U) (v:V) (l:List fC):Prop:=Row EJ W v l
abbrev sG (W:U) (B:Nat) (v:V) (l:List fC):Prop:=Own EJ W B v l
theorem elJ {W:U} {v:V} {l:List fC} {ao:Option aM} {n c k:Nat} {x:fC} (h:vT W v l) (hv:v=Q ao n c) (hn:l.length=n) (hk:l[k]?=O x) :
  ∃ p:aM,(∀ w,(aC 24 (Q ao n c) (D J k)).run X w=.ok (au (O p)) w)/\∀ w,ay W.heap.size W w->w.cell? p=O (D J x.1)/\w.cell? ⟨p.block,p.off+1,aD⟩=O (D J x.2):=by
 obtain⟨p,h1,_,h2⟩:=nP CY h hv hn hk;exact⟨p,h1,fun w hw=>⟨by simpa [K] using h2 w hw 0 _ rfl,by simpa [K] using h2 w hw 1 _ rfl⟩⟩
abbrev jD:=Int×Int×Sl×Int
abbrev cellsD (x:jD):List V:=[D J x.1,D J x.2.1,dU x.2.2.1,D J x.2.2.2]
abbrev mJ (x:jD):V:=aJ #[D J x.1,D J x.2.1,dU x.2.2.1,D J x.2.2.2]
def ED:Ek jD:=⟨74,23,4,48,aJ #[D J 0,D J 0,Q aD 0 0,D J 0],mJ,cellsD⟩
theorem aec:(Tryz.prog.info? 74).map (fun i=>(i.zero,i.size,i.bytes))=O (O (aJ #[D J 0,D J 0,Q aD 0 0,D J 0]),4,48):=by kernel_rfl
theorem RG (w:U) (p:aM) (x:jD) (h:∀ j u,(cellsD x)[j]?=O u->w.cell? (p.add j)=O u):(aH 74 (au (O p))).run X w=.ok (mJ x) w:=by
 have h0:=h 0 _ rfl;have h1:=h 1 _ rfl;have h2:=h 2 _ rfl;have h3:=h 3 _ rfl;simp [K] at h0 h1 h2 h3;simp [go_sem,h0,h1,h2,h3]
theorem okD:ED.Ok where
 hu:=Tryz.underlying23
 info:=by
  have h:=aec;cases hi:Tryz.prog.info? 74 with
  | none=>rw [hi] at h; cases h
  | some i =>
   rw [hi] at h;simp only [aj,Z,aA] at h;exact⟨i,hi,h.1,h.2.1,h.2.2⟩
 zs:=rfl
 len:=fun _=>rfl
 one:=fun x u hu=>by
  simp only [ED,cellsD,aB,ah,or_false] at hu;rcases hu with rfl|rfl|rfl|rfl <;> rfl
 pos:=by decide
 few:=by decide
 load:=fun w p x h=>RG w p x h
abbrev wG (W:U) (v:V) (l:List jD):Prop:=Row ED W v l
abbrev lZ (W:U) (B:Nat) (v:V) (l:List jD):Prop:=Own ED W B v l
theorem M7 {W:U} {v:V} {l:List jD} {ao:Option aM} {n c k:Nat} {x:jD} (h:wG W v l) (hv:v=Q ao n c) (hn:l.length=n) (hk:l[k]?=O x) :
  ∃ p:aM,(∀ w,(aC 23 (Q ao n c) (D J k)).run X w=.ok (au (O p)) w)/\∀ w,ay W.heap.size W w->w.cell? p=O (D J x.1)/\w.cell? ⟨p.block,p.off+1,aD⟩=O (D J x.2.1)/\w.cell? ⟨p.block,p.off+2,aD⟩=O (dU x.2.2.1)/\w.cell? ⟨p.block,p.off+3,aD⟩=O (D J x.2.2.2):=by
 obtain⟨p,h1,_,h2⟩:=nP okD h hv hn hk;exact⟨p,h1,fun w hw=>⟨by simpa [K] using h2 w hw 0 _ rfl,by simpa [K] using h2 w hw 1 _ rfl,by simpa [K] using h2 w hw 2 _ rfl,by simpa [K] using h2 w hw 3 _ rfl⟩⟩
abbrev iq:=Int×Int×Int×Int×Sl×Int×Bool
abbrev iH (x:iq):List V:=[D J x.1,D J x.2.1,D J x.2.2.1,D J x.2.2.2.1,dU x.2.2.2.2.1,D J x.2.2.2.2.2.1,aO x.2.2.2.2.2.2]
abbrev pF (x:iq):V:=aJ #[D J x.1,D J x.2.1,D J x.2.2.1,D J x.2.2.2.1,dU x.2.2.2.2.1,D J x.2.2.2.2.2.1,aO x.2.2.2.2.2.2]
def EN:Ek iq:=⟨66,25,7,72,aJ #[D J 0,D J 0,D J 0,D J 0,Q aD 0 0,D J 0,aO false],pF,iH⟩
theorem aed:(Tryz.prog.info? 66).map (fun i=>(i.zero,i.size,i.bytes))=O (O (aJ #[D J 0,D J 0,D J 0,D J 0,Q aD 0 0,D J 0,aO false]),7,72):=by kernel_rfl
theorem ZH (w:U) (p:aM) (x:iq) (h:∀ j u,(iH x)[j]?=O u->w.cell? (p.add j)=O u):(aH 66 (au (O p))).run X w=.ok (pF x) w:=by
 have h0:=h 0 _ rfl;have h1:=h 1 _ rfl;have h2:=h 2 _ rfl;have h3:=h 3 _ rfl;have h4:=h 4 _ rfl;have h5:=h 5 _ rfl;have h6:=h 6 _ rfl;simp [K] at h0 h1 h2 h3 h4 h5 h6;simp [go_sem,h0,h1,h2,h3,h4,h5,h6]
theorem nO:EN.Ok where
 hu:=Tryz.underlying25
 info:=by
  have h:=aed;cases hi:Tryz.prog.info? 66 with
  | none=>rw [hi] at h; cases h
  | some i =>
   rw [hi] at h;simp only [aj,Z,aA] at h;exact⟨i,hi,h.1,h.2.1,h.2.2⟩
 zs:=rfl
 len:=fun _=>rfl
 one:=fun x u hu=>by
  simp only [EN,iH,aB,ah,or_false] at hu;rcases hu with rfl|rfl|rfl|rfl|rfl|rfl|rfl <;> rfl
 pos:=by decide
 few:=by decide
 load:=fun w p x h=>ZH w p x h
abbrev lI (W:U) (v:V) (l:List iq):Prop:=Row EN W v l
abbrev jV (W:U) (B:Nat) (v:V) (l:List iq):Prop:=Own EN W B v l
theorem Kh {W:U} {v:V} {l:List iq} {ao:Option aM} {n c k:Nat} {x:iq} (h:lI W v l) (hv:v=Q ao n c) (hn:l.length=n) (hk:l[k]?=O x) :
  ∃ p:aM,(∀ w,(aC 25 (Q ao n c) (D J k)).run X w=.ok (au (O p)) w)/\∀ w,ay W.heap.size W w->w.cell? p=O (D J x.1)/\w.cell? ⟨p.block,p.off+1,aD⟩=O (D J x.2.1)/\w.cell? ⟨p.block,p.off+2,aD⟩=O (D J x.2.2.1)/\w.cell? ⟨p.block,p.off+3,aD⟩=O (D J x.2.2.2.1)/\w.cell? ⟨p.block,p.off+4,aD⟩=O (dU x.2.2.2.2.1)/\w.cell? ⟨p.block,p.off+5,aD⟩=O (D J x.2.2.2.2.2.1)/\w.cell? ⟨p.block,p.off+6,aD⟩=O (aO x.2.2.2.2.2.2):=by
 obtain⟨p,h1,_,h2⟩:=nP nO h hv hn hk;exact⟨p,h1,fun w hw=>⟨by simpa [K] using h2 w hw 0 _ rfl,by simpa [K] using h2 w hw 1 _ rfl,by simpa [K] using h2 w hw 2 _ rfl,by simpa [K] using h2 w hw 3 _ rfl,by simpa [K] using h2 w hw 4 _ rfl,by simpa [K] using h2 w hw 5 _ rfl,by simpa [K] using h2 w hw 6 _ rfl⟩⟩
abbrev qM:=Int×Int×Sl
abbrev vU (x:qM):List V:=[D J x.1,D J x.2.1,dU x.2.2]
abbrev Kn (x:qM):V:=aJ #[D J x.1,D J x.2.1,dU x.2.2]
def EW:Ek qM:=⟨34,26,3,40,aJ #[D J 0,D J 0,Q aD 0 0],Kn,vU⟩
theorem aee:(Tryz.prog.info? 34).map (fun i=>(i.zero,i.size,i.bytes))=O (O (aJ #[D J 0,D J 0,Q aD 0 0]),3,40):=by kernel_rfl
theorem aef (w:U) (p:aM) (x:qM) (h:∀ j u,(vU x)[j]?=O u->w.cell? (p.add j)=O u):(aH 34 (au (O p))).run X w=.ok (Kn x) w:=by
 have h0:=h 0 _ rfl;have h1:=h 1 _ rfl;have h2:=h 2 _ rfl;simp [K] at h0 h1 h2;simp [go_sem,h0,h1,h2]
theorem okW:EW.Ok where
 hu:=Tryz.underlying26
 info:=by
  have h:=aee;cases hi:Tryz.prog.info? 34 with
  | none=>rw [hi] at h; cases h
  | some i =>
   rw [hi] at h;simp only [aj,Z,aA] at h;exact⟨i,hi,h.1,h.2.1,h.2.2⟩
 zs:=rfl
 len:=fun _=>rfl
 one:=fun x u hu=>by
  simp only [EW,vU,aB,ah,or_false] at hu;rcases hu with rfl|rfl|rfl <;> rfl
 pos:=by decide
 few:=by decide
 load:=fun w p x h=>aef w p x h
abbrev Pw (W:U) (v:V) (l:List qM):Prop:=Row EW W v l
abbrev qN (W:U) (B:Nat) (v:V) (l:List qM):Prop:=Own EW W B v l
theorem elW {W:U} {v:V} {l:List qM} {ao:Option aM} {n c k:Nat} {x:qM} (h:Pw W v l) (hv:v=Q ao n c) (hn:l.length=n) (hk:l[k]?=O x) :
  ∃ p:aM,(∀ w,(aC 26 (Q ao n c) (D J k)).run X w=.ok (au (O p)) w)/\∀ w,ay W.heap.size W w->w.cell? p=O (D J x.1)/\w.cell? ⟨p.block,p.off+1,aD⟩=O (D J x.2.1)/\w.cell? ⟨p.block,p.off+2,aD⟩=O (dU x.2.2):=by
 obtain⟨p,h1,_,h2⟩:=nP okW h hv hn hk;exact⟨p,h1,fun w hw=>⟨by simpa [K] using h2 w hw 0 _ rfl,by simpa [K] using h2 w hw 1 _ rfl,by simpa [K] using h2 w hw 2 _ rfl⟩⟩
structure Ad where
 id:Id
 p:List C5
 par:Int
structure En where
 tree:Id
 sub:Id
 p:List C5
 from_:Int
 up:Bool
structure Ow where
 id:Id
 p:List C5
structure Br where
 me:Int
 near:List Int
 dQ:List Ad
 seen:List Id
 ent:List En
 own:List Ow
def uX (W:U) (x:jD) (a:Ad):Prop:=(x.1,x.2.1)=a.id/\x.2.2.2=a.par/\fI W (dU x.2.2.1) a.p
def jm (W:U) (x:iq) (a:En):Prop:=(x.1,x.2.1)=a.tree/\(x.2.2.1,x.2.2.2.1)=a.sub/\x.2.2.2.2.2.1=a.from_/\x.2.2.2.2.2.2=a.up/\fI W (dU x.2.2.2.2.1) a.p
def zL (W:U) (x:qM) (a:Ow):Prop:=(x.1,x.2.1)=a.id/\fI W (dU x.2.2) a.p
theorem uX.on {W W':U} {x:jD} {a:Ad} (h:uX W x a) (hb:ay W.heap.size W W'):uX W' x a:=⟨h.1,h.2.1,h.2.2.on hb⟩
theorem jm.on {W W':U} {x:iq} {a:En} (h:jm W x a) (hb:ay W.heap.size W W'):jm W' x a:=⟨h.1,h.2.1,h.2.2.1,h.2.2.2.1,h.2.2.2.2.on hb⟩
theorem zL.on {W W':U} {x:qM} {a:Ow} (h:zL W x a) (hb:ay W.heap.size W W'):zL W' x a:=⟨h.1,h.2.on hb⟩
inductive eP {α β:Type} (R:α->β->Prop):List α->List β->Prop
 | nil:eP R [] []
 | cons {a b l m} (h:R a b) (t:eP R l m):eP R (a::l) (b::m)
theorem eP.mono {α β:Type} {R S:α->β->Prop} (h:∀ a b,R a b->S a b):∀ {l m},eP R l m->eP S l m
 | _,_,.nil=>.nil
 | _,_,.cons x t=>.cons (h _ _ x) (t.mono h)
theorem eP.len {α β:Type} {R:α->β->Prop}:∀ {l m},eP R l m->l.length=m.length
 | _,_,.nil=>rfl
 | _,_,.cons _ t=>by rw [aL,aL,t.len]
theorem eP.at {α β:Type} {R:α->β->Prop}:∀ {l m} (_:eP R l m) (k:Nat) (b:β),m[k]?=O b->∃ a,l[k]?=O a/\R a b
 | _,_,.nil,k,b,h=>by simp at h
 | _,_,.cons x t,0,b,h=>by
  simp at h;subst h;exact⟨_,rfl,x⟩
 | _,_,.cons x t,k+1,b,h=>by
  obtain⟨a,h1,h2⟩:=t.at k b (by simpa using h);exact⟨a,by simpa using h1,h2⟩
theorem eP.append {α β:Type} {R:α->β->Prop}:∀ {l m l' m'},eP R l m->eP R l' m'->eP R (l++l') (m++m')
 | _,_,_,_,.nil,h=>h
 | _,_,_,_,.cons x t,h=>.cons x (t.append h)
theorem eP.take {α β:Type} {R:α->β->Prop}:∀ {l m} (k:Nat),eP R l m->eP R (l.take k) (m.take k)
 | _,_,0,_=>by simp only [List.take_zero]; exact .nil
 | _,_,k+1,.nil=>by simp only [List.take_nil]; exact .nil
 | _,_,k+1,.cons x t=>.cons x (t.take k)
theorem eP.drop {α β:Type} {R:α->β->Prop}:∀ {l m} (k:Nat),eP R l m->eP R (l.drop k) (m.drop k)
 | _,_,0,h=>h
 | _,_,_k+1,.nil=>.nil
 | _,_,k+1,.cons _ t=>t.drop k
structure iZ (W:U) (b:Br) (nv av sv ev ov:Sl):Prop where
 near:qJ W (dU nv) b.near
 dQ:∃ l,wG W (dU av) l/\eP (uX W) l b.dQ
 seen:vT W (dU sv) b.seen
 ent:∃ l,lI W (dU ev) l/\eP (jm W) l b.ent
 own:∃ l,Pw W (dU ov) l/\eP (zL W) l b.own
theorem iZ.on {W W':U} {b:Br} {nv av sv ev ov:Sl} (h:iZ W b nv av sv ev ov) (hb:ay W.heap.size W W'):iZ W' b nv av sv ev ov where
 near:=h.near.on hb
 dQ:=by obtain⟨l,h1,h2⟩:=h.dQ; exact⟨l,h1.on hb,h2.mono fun _ _ h=>h.on hb⟩
 seen:=h.seen.on hb
 ent:=by obtain⟨l,h1,h2⟩:=h.ent; exact⟨l,h1.on hb,h2.mono fun _ _ h=>h.on hb⟩
 own:=by obtain⟨l,h1,h2⟩:=h.own; exact⟨l,h1.on hb,h2.mono fun _ _ h=>h.on hb⟩
abbrev rP (me:Int) (nv av sv ev ov:Sl):V:=aJ #[D J me,dU nv,dU av,dU sv,dU ev,dU ov]
abbrev jA (me:Int) (nv av sv ev ov:Sl):Array V:=#[D J me,dU nv,dU av,dU sv,dU ev,dU ov]
def eH (a b:Id):Bool:=decide (a.1<b.1) || (a.1 == b.1 && decide (a.2<b.2))
def fJ:List Id->Id->Int
 | [],_=>-1
 | a::l,x=>if a=x then 0 else if fJ l x=-1 then -1 else fJ l x+1
def fT (l:List Id) (x:Id):Nat:=(l.takeWhile fun a=>eH a x).length
abbrev mM (x:Id):V:=aJ #[D J x.1,D J x.2]
theorem M8:Tryz.prog.stoodInHeld 31=false:=by kernel_rfl
theorem qO (a b c d:Int) (r:Bool) (h:(a == c && b == d)=r) (w:U):(binOp .eql 31 (aJ #[D J a,D J b]) (aJ #[D J c,D J d])).run X w=.ok (aO r) w:=by
 have st:=M8;subst h;by_cases h1:a=c <;> by_cases h2:b=d <;> simp [go_sem,Tryz.underlying31,Tryz.underlying3,st,h1,h2]
theorem fM (w:U) (o:Obj):ay w.heap.size w (w.alloc o):=(Below.refl _ _).alloc (Nat.le_refl _) _
theorem gP (w:U) (c d:Array V) (s t:TypeId):ay w.heap.size w ((w.alloc (ak c s)).alloc (ak d t))/\dK ((w.alloc (ak c s)).alloc (ak d t)) w.heap.size c s/\dK ((w.alloc (ak c s)).alloc (ak d t)) (w.heap.size+1) d t:=by
 refine⟨((Below.refl _ _).alloc (Nat.le_refl _) _).alloc (by simp) _,(dJ w c s).more _,?_⟩;have h:=dJ (w.alloc (ak c s)) d t;simpa using h
theorem sO (x y:Id) (w:U):Calls X 74 #[mM x,mM y] w fun e w'=>e=.returned (aO (eH x y))/\ay w.heap.size w w':=by
 obtain⟨a,b⟩:=x;obtain⟨c,d⟩:=y;obtain⟨h0,h1,h2⟩:=gP w #[D J a,D J b] #[D J c,D J d] 31 31;have B:=L h0;obtain⟨a0,a1⟩:=h1.cs2;obtain⟨b0,b1⟩:=h2.cs2;have R:=L (show eH (a,b) (c,d)=(decide (a<c) || (a == c && decide (b<d))) from rfl);generalize eH (a,b) (c,d)=r at *;obtain⟨r1,e1⟩:∃ r,decide (a<c)=r:=⟨_,rfl⟩;obtain⟨r2,e2⟩:∃ r,(a == c)=r:=⟨_,rfl⟩;obtain⟨r3,e3⟩:∃ r,decide (b<d)=r:=⟨_,rfl⟩;rw [e1,e2,e3] at R;clear h0 h1 h2;go_enter Tryz.func74,Tryz.ntmps74;cases r1 <;> cases r2
 all_goals
  go_wp2;go_ret;exact⟨by rw [R.out]; simp,B.out⟩
theorem Px (me:Int) (nv av ev ov:V) (sv:Sl) (l:List Id) (x:Id) (w:U) (hs:vT w (dU sv) l) :
  Calls X 106 #[aJ #[D J me,nv,av,dU sv,ev,ov],mM x] w fun e w'=>e=.returned (aO (decide (x∈l)))/\ay w.heap.size w w':=by
 obtain⟨c,d⟩:=x;obtain⟨so,sn,sc⟩:=sv;obtain⟨ao,ac,hv⟩:=hs.len;have hv:Q so sn sc=Q ao l.length ac:=hv;obtain⟨rfl,rfl,rfl⟩:so=ao/\sn=l.length/\sc=ac:=by simpa using hv
 obtain⟨h0,h1,h2⟩:=gP w #[D J me,nv,av,Q so l.length sc,ev,ov] #[D J c,D J d] 28 31;have B:=L h0;have HS:=L (hs.on h0);have X2:=L h1;have X3:=L h2;have lm:=hs.most;unfold maxLen at lm;obtain⟨n,hn⟩:∃ n,n=l.length:=⟨_,rfl⟩;have q3:=h1.cell 3;simp only [aI,aF,aG] at q3;rw [<- hn] at HS X2 lm q3 B X3 ⊢;have HN:=L hn.symm;clear h0 h1 h2 hs hv hn;go_enter Tryz.func106,Tryz.ntmps106;go_upto_region 1 with fail;generalize (w.alloc (ak #[D J me,nv,av,Q so n sc,ev,ov] 28)).alloc (ak #[D J c,D J d] 31)=W at *;go_wp2
 go_loopw [10] (fun i wr=>∃ k:Nat,k<=n/\i=D J k/\ay W.heap.size W wr/\∀ (j:Nat) (y:Id),j<k->l[j]?=O y->y≠(c,d)) (fun i _=>n-(intOf i).toNat)
 case atStart=>exact⟨0,Nat.zero_le _,rfl,Below.refl _ _,fun j y h=>by omega⟩
 case round =>
  obtain⟨k,hk,rfl,hbe,hall⟩:=hrel;have BE:=L hbe;have AL:=L hall;clear hbe hall;by_cases hlt:k<n
  ·obtain⟨y,hy⟩:∃ y,l[k]?=O y:=⟨_,Y (by rw [HN.out]; exact hlt)⟩;obtain⟨p,ix,px⟩:=elJ HS.out rfl HN.out hy;obtain⟨p0,p1⟩:=px wr BE.out;obtain⟨y1,y2⟩:=y;simp only at p0 p1;have NB:=L (fM wr (ak #[D J y1,D J y2] 31));obtain⟨x0,x1⟩:=((X3.out.on BE.out).on NB.out).cs2;have hw3:IntKind.i64.wrap ((k:Int)+1)=(k:Int)+1:=IntWalk.i64_in _ (by omega);obtain⟨r,hr⟩:∃ r,(y1 == c && y2 == d)=r:=⟨_,rfl⟩;have he:=qO y1 y2 c d r hr;have HY:=L hy;have HR:=L hr;clear px hy hr;cases r
   ·go_wp2
    go_roundw
    case rel=>exact⟨k+1,by omega,by go_num,BE.out.trans (NB.out.mono BE.out.size),fun j y' hj h1=>by
     rcases Nat.lt_or_ge j k with h3|h3
     ·exact AL.out j y' h3 h1
     ·obtain rfl:j=k:=by omega
      have e1:=HY.out;rw [h1] at e1;rw [aN e1];intro e;obtain⟨rfl,rfl⟩:y1=c/\y2=d:=by simpa using e
      have:=HR.out;simp at this⟩
    case measure=>simp [intOf]; omega
   ·go_wp2;go_ret;have h8:=HR.out;obtain⟨rfl,rfl⟩:y1=c/\y2=d:=by simpa using h8
    exact⟨by rw [decide_eq_true (List.mem_of_getElem? HY.out)]; rfl,B.out.trans ((BE.out.trans (NB.out.mono BE.out.size)).mono B.out.size)⟩
  ·obtain rfl:k=n:=by omega
   go_wp2;go_ret;have hd:decide ((c,d)∈l)=false:=decide_eq_false fun hm=>by
    obtain⟨j,hj,hje⟩:=List.getElem_of_mem hm;exact AL.out j (c,d) (by rw [<- HN.out]; exact hj) (by rw [Y hj,hje]) rfl
   exact⟨by rw [hd]; rfl,B.out.trans (BE.out.mono B.out.size)⟩
theorem nG:∀ (l:List Id) (x:Id),-1<=fJ l x
 | [],_=>by simp [fJ]
 | a::l,x=>by
  unfold fJ;have:=nG l x
  split
  ·omega
  ·split <;> omega
theorem Py (l:List jD) (x:Id) (h:∀ (j:Nat) (y:jD),l[j]?=O y->(y.1,y.2.1)≠x):fJ (l.map fun y=>(y.1,y.2.1)) x=-1:=by
 induction l with
 | nil=>rfl
 | cons a l ih =>
  rw [aK,fJ,if_neg (h 0 a rfl),ih fun j y hj=>h (j+1) y (by simpa using hj),if_pos rfl]
theorem Yf (l:List jD) (k:Nat) (x:Id) (y:jD) (h:l[k]?=O y) (hx:(y.1,y.2.1)=x) (hall:∀ (j:Nat) (z:jD),j<k->l[j]?=O z->(z.1,z.2.1)≠x):fJ (l.map fun y=>(y.1,y.2.1)) x=k:=by
 induction l generalizing k with
 | nil=>simp at h
 | cons a l ih =>
  cases k with
  | zero =>
   obtain rfl:a=y:=by simpa using h
   rw [aK,fJ,if_pos hx]
   rfl
  | succ k =>
   have h2:=ih k (by simpa using h) fun j z hj hz=>hall (j+1) z (by omega) (by simpa using hz);rw [aK,fJ,if_neg (hall 0 a (by omega) rfl),h2,if_neg (by omega)];omega
theorem uG (me:Int) (nv ev sv ov:V) (av:Sl) (l:List jD) (x:Id) (w:U) (hs:wG w (dU av) l) :
  Calls X 104 #[aJ #[D J me,nv,dU av,sv,ev,ov],mM x] w fun e w'=>e=.returned (D J (fJ (l.map fun y=>(y.1,y.2.1)) x))/\ay w.heap.size w w':=by
 obtain⟨c,d⟩:=x;obtain⟨so,sn,sc⟩:=av;obtain⟨ao,ac,hv⟩:=hs.len;have hv:Q so sn sc=Q ao l.length ac:=hv;obtain⟨rfl,rfl,rfl⟩:so=ao/\sn=l.length/\sc=ac:=by simpa using hv
 obtain⟨h0,h1,h2⟩:=gP w #[D J me,nv,Q so l.length sc,sv,ev,ov] #[D J c,D J d] 28 31;have B:=L h0;have HS:=L (hs.on h0);have X2:=L h1;have X3:=L h2;have lm:=hs.most;unfold maxLen at lm;obtain⟨n,hn⟩:∃ n,n=l.length:=⟨_,rfl⟩;have q3:=h1.cell 2;simp only [aI,aF,aG] at q3;rw [<- hn] at HS X2 lm q3 B X3 ⊢;have HN:=L hn.symm;clear h0 h1 h2 hs hv hn;go_enter Tryz.func104,Tryz.ntmps104;go_upto_region 1 with fail;generalize (w.alloc (ak #[D J me,nv,Q so n sc,sv,ev,ov] 28)).alloc (ak #[D J c,D J d] 31)=W at *;go_wp2
 go_loopw [10] (fun i wr=>∃ k:Nat,k<=n/\i=D J k/\ay W.heap.size W wr/\∀ (j:Nat) (y:jD),j<k->l[j]?=O y->(y.1,y.2.1)≠(c,d)) (fun i _=>n-(intOf i).toNat)
 case atStart=>exact⟨0,Nat.zero_le _,rfl,Below.refl _ _,fun j y h=>by omega⟩
 case round =>
  obtain⟨k,hk,rfl,hbe,hall⟩:=hrel;have BE:=L hbe;have AL:=L hall;clear hbe hall;by_cases hlt:k<n
  ·obtain⟨y,hy⟩:∃ y,l[k]?=O y:=⟨_,Y (by rw [HN.out]; exact hlt)⟩;obtain⟨p,ix,px⟩:=M7 HS.out rfl HN.out hy;obtain⟨p0,p1,p2,p3⟩:=px wr BE.out;obtain⟨y1,y2,⟨yo,yn,yc⟩,y4⟩:=y;simp only at p0 p1 p2 p3;have NB:=L (fM wr (ak #[D J y1,D J y2,Q yo yn yc,D J y4] 74));obtain⟨x0,x1⟩:=((X3.out.on BE.out).on NB.out).cs2;have hw3:IntKind.i64.wrap ((k:Int)+1)=(k:Int)+1:=IntWalk.i64_in _ (by omega);obtain⟨r,hr⟩:∃ r,(y1 == c && y2 == d)=r:=⟨_,rfl⟩;have he:=qO y1 y2 c d r hr;have HY:=L hy;have HR:=L hr;clear px hy hr;cases r
   ·go_wp2
    go_roundw
    case rel=>exact⟨k+1,by omega,by go_num,BE.out.trans (NB.out.mono BE.out.size),fun j y' hj h1=>by
     rcases Nat.lt_or_ge j k with h3|h3
     ·exact AL.out j y' h3 h1
     ·obtain rfl:j=k:=by omega
      have e1:=HY.out;rw [h1] at e1;rw [aN e1];intro e;obtain⟨rfl,rfl⟩:y1=c/\y2=d:=by simpa using e
      have:=HR.out;simp at this⟩
    case measure=>simp [intOf]; omega
   ·go_wp2;go_ret;have h8:=HR.out;obtain⟨rfl,rfl⟩:y1=c/\y2=d:=by simpa using h8
    exact⟨by rw [Yf l k (y1,y2) _ HY.out rfl AL.out]; rfl,B.out.trans ((BE.out.trans (NB.out.mono BE.out.size)).mono B.out.size)⟩
  ·obtain rfl:k=n:=by omega
   go_wp2;go_ret;have hd:fJ (l.map fun y=>(y.1,y.2.1)) (c,d)=-1:=Py l (c,d) fun j y hj=>AL.out j y (by rw [<- HN.out]; exact (List.getElem?_eq_some_iff.1 hj).1) hj;exact⟨by rw [hd]; rfl,B.out.trans (BE.out.mono B.out.size)⟩
theorem dO {α:Type} {E:Ek α} {W:U} {B C:Nat} {v:V} {l:List α} (h:Own E W B v l) (hc:C<=B):Own E W C v l:=by
 refine⟨h.1,?_⟩;rcases h.2 with h2|⟨g,cap,cur,h1,h2,h3⟩
 ·exact Or.inl h2
 ·exact Or.inr ⟨g,cap,cur,h1,Nat.le_trans hc h2,h3⟩
theorem dI {α:Type} {E:Ek α} {W W':U} {B:Nat} {v:V} {l:List α} (h:Own E W B v l) (hb:ay W.heap.size W W'):Own E W' B v l :=
 h.kept (w':=W') (row:=aD) ⟨hb.os,hb.tape,hb.output,hb.size,fun k hk _=>hb.block k hk⟩ (by cases v.ownBlock <;> simp)
theorem eF {α:Type} {E:Ek α} {W:U} {B:Nat} {v:V} {l:List α} (h:Own E W B v l) (b k:Nat) (x:V) (hb:b<B):Own E (W.setCell ⟨b,k,aD⟩ x) B v l :=
 h.kept (w':=W.setCell ⟨b,k,aD⟩ x) (row:=O b) ⟨rfl,rfl,rfl,by simp [World.setCell],fun j _ hne=>RowKit.Below.heap_setCell _ _ _ _ (fun e=>hne (by rw [e]))⟩ (by
  cases hv:v.ownBlock with
  | none=>exact Or.inl rfl
  | some j =>
   refine Or.inr fun e=>?_;injection e with e
   have h1:=(h.lt j hv).1;omega)
theorem add_one (x y:Operand) (t:TypeId) (w:U) (k:Nat) (hk:k<=900):(do eqGuard .add t x y (D J k) (D J 1); binOp .add t (D J k) (D J 1):Sem V).run X w=.ok (D J ((k:Int)+1)) w:=by
 have h:IntKind.i64.wrap ((k:Int)+1)=(k:Int)+1:=IntWalk.i64_in _ (by omega);simp [eqGuard,binOp,Op.intArith,go_sem,h]
theorem dW {W:U} {rb k:Nat} {cs:Array V} {t:TypeId} (h:dK W rb cs t) (x:V):dK (W.setCell ⟨rb,k,aD⟩ x) rb (cs.setIfInBounds k x) t:=heap_setCell_same W rb k cs t x h
end Go.Proofs.YtmklifheakemeaaGreat.Bk
